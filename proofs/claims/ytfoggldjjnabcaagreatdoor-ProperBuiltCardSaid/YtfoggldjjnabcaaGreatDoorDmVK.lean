/- The program's travel: from block 0 through all blocks that are reached. -/
import Derived.Test.YtfoggldjjnabcaaGreatDoorModAK
import Derived.Test.YtfoggldjjnabcaaGreatDoorDmCK
import Derived.WalkSmall
set_option linter.unusedVariables false
set_option linter.unusedSimpArgs false
namespace Go.Proofs.YtfoggldjjnabcaaGreatDoor
open Go.ChangeShapes Go.WideShapes Go.RowKit Go.Deep
def xu (par:Nat->Nat) (v:Nat):Int:=if v=0 then -1 else (par v:Int)
structure TvR (w:World) (K k:Nat) (vb vf va:Value) (V:Nat->Value) (bl par:Nat->Nat) (ah:Nat->List Nat):Prop where
 rb:w.ownsRow K 3 1 vb k ((List.range k).map λ v=>.int .i64 (bl v:Int))
 rf:w.ownsRow K 3 1 vf k ((List.range k).map λ v=>.int .i64 (xu par v))
 ra:w.ownsRow K 27 1 va k ((List.range k).map V)
 rV:∀ v,v<k->w.ownsRow K 3 1 (V v) (ah v).length ((zs (ah v)).map (Value.int .i64))
def qB5 (nx:Nat->List Nat) (n:Nat) (w:World) (e:Ending) (w':World):Prop :=
 (∃ (k:Nat) (bl par:Nat->Nat) (ah:Nat->List Nat) (pl:Nat->Int) (vb vf va:Value) (V:Nat->Value),e=.returned (.agg #[vb,vf,va])/\TvE nx n k bl par ah pl/\TvR w' w.heap.size k vb vf va V bl par ah)/\Below w.heap.size w w'
theorem q2v (w:World) (M:Nat) (hM:M=w.heap.size) (o0 o1 o2:Obj) (W:World) (hW:W=((w.alloc o0).alloc o1).alloc o2) :
  W.heap[M]?=some o0/\W.heap[M+1]?=some o1/\W.heap[M+1+1]?=some o2/\W.heap.size=M+3/\Below M w W:=by
 subst hM hW;(have hz (u:World) (o:Obj):(u.alloc o).heap.size=u.heap.size+1:=by simp);have hg (u:World) (o:Obj) (k:Nat):(u.alloc o).heap[k]?=if k=u.heap.size then some o else u.heap[k]?:=by
  show (u.heap.push o)[k]?=_;rw [Array.getElem?_push]
 refine ⟨?_,?_,?_,?_,?_⟩
 ·(simp only [hg,hz];repeat rw [if_neg (by omega)]);exact if_pos (by first | trivial | omega)
 ·(simp only [hg,hz];repeat rw [if_neg (by omega)]);exact if_pos (by first | trivial | omega)
 ·(simp only [hg,hz];repeat rw [if_neg (by omega)]);exact if_pos (by first | trivial | omega)
 ·simp [hz]
 ·refine (((J5 _ w).alloc ?_ _).alloc ?_ _).alloc ?_ _;all_goals (simp [hz];try omega)
theorem q7g {w:World} {B P K n:Nat} {pl:Nat->Int} (hB:w.heap[B]?=some (.cells #[.slice none 0 0,.slice none 0 0,.slice none 0 0] 147)) (hP:w.rowIs P 3 n (λ b=>Value.int .i64 (pl b))) (hK:K<=w.heap.size) (tc:B<K/\P<K/\B≠P)
  (V:Nat->Value) (bl:Nat->Nat) (frm:Nat->Int) (ah:Nat->List Nat):TvM (w.alloc (.cells #[.int .i64 (-1),.int .i64 0] 185)) B P K n 0 (.slice none 0 0) (.slice none 0 0) (.slice none 0 0) (.slice (some ⟨w.heap.size,0,none⟩) 1 1) V bl frm ah pl [(-1,0)]:=by
 have hb:=(J5 w.heap.size w).alloc (J4 _) (.cells #[.int .i64 (-1),.int .i64 0] 185);refine ⟨(hb.block B (Array.getElem?_eq_some_iff.1 hB).1).trans hB,hP.of_block (hb.block P hP.lt),⟨λ i hi=>?_,λ i j hi hj hij=>?_⟩,tc⟩
 ·rcases (by omega:i=0\/i=1\/i=2\/i=3) with rfl | rfl | rfl | rfl
  ·exact World.ownsRow_nil _ _ _ _
  ·exact World.ownsRow_nil _ _ _ _
  ·exact World.ownsRow_nil _ _ _ _
  ·exact World.ownsRow_lit w #[.int .i64 (-1),.int .i64 0] 1 hK (by unfold maxLen;omega) rfl
 ·rcases (by omega:i=0\/i=1\/i=2\/i=3) with rfl | rfl | rfl | rfl
  ·exact .inl rfl
  ·exact .inl rfl
  ·exact .inl rfl
  ·right;rcases (by omega:j=0\/j=1\/j=2) with rfl | rfl | rfl <;> (intro e;cases e)
section
variable {w w1:World} {B P K n k:Nat} {vb vf va vo:Value} {V:Nat->Value} {bl:Nat->Nat} {frm:Nat->Int} {ah:Nat->List Nat} {pl:Nat->Int} {op:List (Int × Nat)}
theorem TvM.openG (h:TvM w B P K n k vb vf va vo V bl frm ah pl op) {vo':Value} {op':List (Int × Nat)} (hg:GroD w w1 vo vo') (ho:w1.ownsRow K 185 2 vo' op'.length (jx op')):TvM w1 B P K n k vb vf va vo' V bl frm ah pl op':=by
 obtain ⟨h1,h2,h3⟩:=h.grow (t:=3) (v':=vo') (r:=⟨185,2,op'.length,jx op'⟩) (by omega) hg ho;refine ⟨h1,h2,h3.congr (λ i hi=>?_) (λ i hi=>?_),h.lt⟩
 ·rcases Nat.lt_or_ge i 4 with h | h
  ·rcases (by omega:i=0\/i=1\/i=2\/i=3) with rfl | rfl | rfl | rfl <;> simp [qM,tvU]
  ·obtain ⟨j,rfl⟩:∃ j,i=j+4:=⟨i - 4,by omega⟩;simp [qM,tvU]
 ·rcases Nat.lt_or_ge i 4 with h | h
  ·rcases (by omega:i=0\/i=1\/i=2\/i=3) with rfl | rfl | rfl | rfl <;> simp [qM,tvT]
  ·obtain ⟨j,rfl⟩:∃ j,i=j+4:=⟨i - 4,by omega⟩;simp [qM,tvT]
theorem TvM.plSet (h:TvM w B P K n k vb vf va vo V bl frm ah pl op) (b:Nat) (x:Int):TvM (w.setCell ⟨P,b,none⟩ (.int .i64 x)) B P K n k vb vf va vo V bl frm ah (qM pl b x) op:=by
 have tc:=h.lt;have hs:∀ y,y≠P->(w.setCell ⟨P,b,none⟩ (.int .i64 x)).heap[y]?=w.heap[y]?:=λ y hy=>JQ _ _ _ _ hy;exact ⟨(hs B tc.2.2).trans h.box,(h.plr.set b (.int .i64 x)).congr λ v _=>by unfold qM;by_cases e:v=b <;> simp [e],h.pool.go λ g hg _=>hs g (by omega),tc⟩
theorem TvM.ahead (h:TvM w B P K n k vb vf va vo V bl frm ah pl op) {p u ga cap:Nat} {v':Value} (hp:p<k) (wv:va=.slice (some ⟨ga,0,none⟩) k cap) (hg:GroD w w1 (V p) v') (ho:w1.ownsRow K 3 1 v' (ah p++[u]).length ((zs (ah p++[u])).map (Value.int .i64))) :
  TvM (w1.setCell ⟨ga,p,none⟩ v') B P K n k vb vf va vo (qM V p v') bl frm (qM ah p (ah p++[u])) pl op:=by
 (have hVp:tvU vb vf va vo V (p+4)=V p:=by simp [tvU]);(obtain ⟨h1,h2,h3⟩:=h.grow (t:=p+4) (v':=v') (r:=⟨3,1,(ah p++[u]).length,(zs (ah p++[u])).map (Value.int .i64)⟩) (by omega) (by rw [hVp];exact hg) ho);have tc:=h.lt;subst wv;have wR:w1.ownsRow K 27 1 (.slice (some ⟨ga,0,none⟩) k cap) k ((List.range k).map V):=by
  have:=h3.own 2 (by omega);rw [q8 _ _ (by omega),q8 _ _ (by omega)] at this;exact this
 have hgK:=(wR.lt ga rfl).1;have sy:=(wR.stored p v').1;rw [q1Q] at sy;have h4:=h3.gro (t:=2) (v':=.slice (some ⟨ga,0,none⟩) k cap) (r:=⟨27,1,k,(List.range k).map (qM V p v')⟩) (by omega)
  (by rw [q8 _ _ (by omega)];exact q55 w1 v') sy
 have hs:∀ y,y≠ga->(w1.setCell ⟨ga,p,none⟩ v').heap[y]?=w1.heap[y]?:=λ y hy=>JQ _ _ _ _ hy;refine ⟨(hs B (by omega)).trans h1,h2.of_block (hs P (by omega)),h4.congr (λ i hi=>?_) (λ i hi=>?_),tc⟩
 ·rcases Nat.lt_or_ge i 4 with h | h
  ·rcases (by omega:i=0\/i=1\/i=2\/i=3) with rfl | rfl | rfl | rfl <;> simp [qM,tvU]
  ·obtain ⟨j,rfl⟩:∃ j,i=j+4:=⟨i - 4,by omega⟩
   by_cases e:j=p
   ·subst e;simp [qM,tvU]
   ·simp [qM,tvU,e]
 ·rcases Nat.lt_or_ge i 4 with h | h
  ·rcases (by omega:i=0\/i=1\/i=2\/i=3) with rfl | rfl | rfl | rfl <;> simp [qM,tvT]
  ·obtain ⟨j,rfl⟩:∃ j,i=j+4:=⟨i - 4,by omega⟩
   by_cases e:j=p
   ·subst e;simp [qM,tvT]
   ·simp [qM,tvT,e]
theorem TvM.congr (h:TvM w B P K n k vb vf va vo V bl frm ah pl op) {frm':Nat->Int} {ah':Nat->List Nat} (hf:∀ v,v<k->frm v=frm' v) (ha:∀ v,v<k->ah v=ah' v):TvM w B P K n k vb vf va vo V bl frm' ah' pl op:=by
 refine ⟨h.box,h.plr,h.pool.congr (λ _ _=>rfl) (λ i hi=>?_),h.lt⟩;rcases Nat.lt_or_ge i 4 with h | h
 ·rcases (by omega:i=0\/i=1\/i=2\/i=3) with rfl | rfl | rfl | rfl
  ·rfl
  ·show RowD.mk _ _ _ _=RowD.mk _ _ _ _;(congr 1);exact List.map_congr_left λ v hv=>by rw [hf v (List.mem_range.1 hv)]
  ·rfl
  ·rfl
 ·obtain ⟨j,rfl⟩:∃ j,i=j+4:=⟨i - 4,by omega⟩;simp [tvT,ha j (by omega)]
end
theorem q7h {m:Nat} {vb vf va:Value} {V:Nat->Value} (vo vo':Value):∀ i,i<m->tvU vb vf va vo' V i=qM (tvU vb vf va vo V) 3 vo' i:=λ i _=>by
 by_cases e:i=3
 ·subst e;simp [qM,tvU]
 ·simp [qM,tvU,e]
theorem q1Z (w:World) (x y:Value) (t:TypeId):∀ j u,[x,y][j]?=some u->(w.alloc (.cells #[x,y] t)).cell? ((⟨w.heap.size,0,none⟩:Addr).add j)=some u:=by
 intro j u hj;(have hl:j<2:=by have:=(Jk hj).1;simpa using this);have hb:=heap_alloc_new w (.cells #[x,y] t);rcases (by omega:j=0\/j=1) with rfl | rfl
 ·simp at hj;subst hj;exact q6 hb 0
 ·simp at hj;subst hj;exact q6 hb 1
theorem zY {w:World} {K n size:Nat} {e:TypeId} {v:Value} {xs:List Value} (h:w.ownsRow K e size v n xs):∃ A c,v=.slice A n c:=by
 rcases h.2 with ⟨h1,h2⟩ | ⟨g,cap,cur,h1,-⟩
 ·exact ⟨_,_,by rw [h1,h2]⟩
 ·exact ⟨_,_,h1⟩
def LocD (w:World) (M N:Nat) (ef:Int) (et m:Nat) (U:Nat->Value) (wq:World):Prop :=
 wq.cell? ⟨N,0,none⟩=some (.int .i64 ef)/\wq.cell? ⟨N,1,none⟩=some (.int .i64 (et:Int))/\q6C m U N/\N<wq.heap.size/\wq.heap[M]?=some (.cells #[.slice none 0 0,.slice none 0 0,.slice none 0 0] 147)/\M+3<=wq.heap.size/\Below M w wq/\M+3<=N
theorem LocD.step {w wq wq':World} {M N et m m':Nat} {ef:Int} {U U':Nat->Value} (h:LocD w M N ef et m U wq) (hf:FrD (M+1) m m' U U' wq wq') (hU:∀ i,i<m->∀ b,(U i).ownBlock=some b->M+3<=b):LocD w M N ef et m' U' wq':=by
 obtain ⟨h1,h2,h3,h4,h5,h6,h7,h8⟩:=h;have hs:=hf.size;obtain ⟨hN,hF⟩:=hf.block N h4 (by omega) h3;(have tw:∀ b,b<M+1->wq'.heap[b]?=wq.heap[b]?:=λ b hb=>(hf.block b (by omega) (by omega) (λ i hi e=>by have:=hU i hi b e;omega)).1);exact ⟨(JK (a:=⟨N,0,none⟩) hN).trans h1,(JK (a:=⟨N,1,none⟩) hN).trans h2,hF,by omega,(tw M (by omega)).trans h5,by omega,h7.trans ⟨hf.os,hf.tape,hf.output,hf.size,λ b hb=>tw b (by omega)⟩,h8⟩
theorem LocD.setLow {w wq:World} {M N et m:Nat} {ef:Int} {U:Nat->Value} (h:LocD w M N ef et m U wq) (i:Nat) (v:Value):LocD w M N ef et m U (wq.setCell ⟨M+1+1,i,none⟩ v):=by
 obtain ⟨h1,h2,h3,h4,h5,h6,h7,h8⟩:=h;have hs:∀ y,y≠M+1+1->(wq.setCell ⟨M+1+1,i,none⟩ v).heap[y]?=wq.heap[y]?:=λ y hy=>JQ _ _ _ _ hy;exact ⟨(JK (a:=⟨N,0,none⟩) (hs N (by omega))).trans h1,(JK (a:=⟨N,1,none⟩) (hs N (by omega))).trans h2,h3,by simpa using h4,(hs M (by omega)).trans h5,by simpa using h6,h7.setCell (by show M<=M+1+1;omega) _,h8⟩
theorem Tryz.info185:(Tryz.prog.info? 185).map (λ i=>(i.zero,i.size,i.bytes))=some (some (.agg #[.int .i64 0,.int .i64 0]),2,16):=by kernel_rfl
theorem q6P (w:World):(sizeOf (Tryz.prog.elem 186)).run Tryz.prog w=.ok 2 w:=by kernel_rfl
theorem q5A:Tryz.prog.underlying 186=some (.slice (Tryz.prog.elem 186)):=by kernel_rfl
theorem q78 (op:List (Int × Nat)):(jx op).length=op.length * 2:=by
 induction op with
 | nil=>rfl
 | cons e op ih=>show ([Value.int .i64 e.1,Value.int .i64 (e.2:Int)]++jx op).length=_;simp [ih];omega
theorem q0z (op:List (Int × Nat)) (e:Int × Nat):jx (op++[e])=jx op++[.int .i64 e.1,.int .i64 (e.2:Int)]:=by simp [jx]
theorem q86 {w:World} {K:Nat} {v:Value} {op:List (Int × Nat)} {e:Int × Nat} (h:w.ownsRow K 185 2 v (op++[e]).length (jx (op++[e]))) :
  ∃ g cap,v=.slice (some ⟨g,0,none⟩) (op.length+1) cap/\w.cell? ⟨g,op.length * 2,none⟩=some (.int .i64 e.1)/\w.cell? ⟨g,op.length * 2+1,none⟩=some (.int .i64 (e.2:Int))/\op.length+1<=cap/\cap<=maxLen /\
   (∀ W,(Instr.slice 186 (.slice (some ⟨g,0,none⟩) (op.length+1) cap) none (some (.int .i64 op.length)) none).run Tryz.prog W=.ok (.slice (some ⟨g,0,none⟩) op.length cap) W) /\
   w.ownsRow K 185 2 (.slice (some ⟨g,0,none⟩) op.length cap) op.length (jx op):=by
 (have hl:(op++[e]).length=op.length+1:=by simp);rw [hl] at h;have h0:=h;obtain ⟨h1,⟨-,h2⟩ | ⟨g,cap,cur,rfl,hb,hh,hn,hc,tR,ht⟩⟩:=h
 ·omega
 ·have hf:=q78 op;have hs:=q0z op e;refine ⟨g,cap,rfl,?_,?_,hn,hc,λ W=>?_,ownsRow_pop hf (by rw [<- hs];exact h0)⟩
  ·rw [h0.cellAt _ (by omega),hs,List.getElem?_append_right (by omega)];simp [hf]
  ·rw [h0.cellAt _ (by omega),hs,List.getElem?_append_right (by omega)];simp [hf]
  ·rw [run_slice_h W 186 (some ⟨g,0,none⟩) (op.length+1) cap q5A .i64 op.length (by omega) (by omega),q6P];(have rm:cap≠0:=by omega);simp [Result.andThen,sliced,rm,Addr.add]
set_option maxRecDepth 100000 in
set_option maxHeartbeats 8000000 in
theorem q4f (nx:Nat->List Nat) (n G:Nat) (w:World) (h:SL w 1 RRow (some ⟨G,0,none⟩) n ((List.range n).map λ i=>zs (nx i))) (hn:0<n) (sW:n<=1000) (sC:∀ x,∀ t∈nx x,t<n) (tx:∀ x,(nx x).length<=n) :
  Calls Tryz.prog 96 #[.slice (some ⟨G,0,none⟩) n n] w (qB5 nx n w):=by
 have sX:=run_make_row' (P:=Tryz.prog) 27 3 (.int .i64 0) 8 Tryz.underlying27 Tryz.info3 rfl .i64 .i64 n (by omega) (by omega);(have hne:((n:Int) == 0)=false:=by simp;omega);obtain ⟨i0,hi,th,tg,tf⟩:=info_parts Tryz.info3;have wT:=Jj (And.intro hi (And.intro th (And.intro tg tf)));clear hi th tg tf;obtain ⟨ie,hi,th,tg,tf⟩:=info_parts Tryz.info185;have HE:=Jj (And.intro hi (And.intro th (And.intro tg tf)));clear hi th tg tf;have HS:=Jj h
 have sM:=Jj sC;have tK:=Jj tx;clear h sC tx;(go_enter Tryz.func96,Tryz.ntmps96);(go_upto_region 5 with fail);clear sX;obtain ⟨M,hM⟩:∃ M,M=w.heap.size:=⟨_,rfl⟩;obtain ⟨W,hW⟩:∃ W,W=((w.alloc (.cells #[.slice none 0 0,.slice none 0 0,.slice none 0 0] 147)).alloc (.cells #[.slice none 0 0,.slice none 0 0,.slice none 0 0] 147)).alloc (.cells (madeCells #[.int .i64 0] n) 3):=⟨_,rfl⟩;rw [<- hW]
 obtain ⟨b0,b1,b2,tR,tG⟩:=q2v w M hM _ _ _ W hW;have tT:=yJ b2;have rH:=Jj b0;have rK:=Jj b1;have wk:=Jj tG;have ru:=Jj tR;have HM:=Jj hM;rw [<- hM];clear hW b0 b1 b2 tG tR hM
 go_wp2_with fail
 go_loopw [20] (λ i wr=>∃ j:Nat,j<=n/\i=.int .i64 j/\wr.rowIs (M+1+1) 3 n (λ b=>.int .i64 (if b<j then -1 else 0))/\FrX (λ b=>b=M+1+1) W wr) (λ i _=>n - (intOf i).toNat)
 case atStart=>exact ⟨0,Nat.zero_le _,rfl,tT.congr λ _ _=>rfl,FrX.refl _ _⟩
 case round =>
  obtain ⟨j,hj,rfl,hr,tZ⟩:=hrel;have wU:=Jj tZ
  by_cases rc:j<n
  ·(have e1:wr.cell? ⟨M+1+1,j,none⟩=some (.int .i64 0):=by have:=hr.cell rc;simpa using this);have f1:=hr.frozen j;(have ri:(0:Int)<=j:=by omega);have rh:(j:Int)<n:=by omega
   have HR:=Jj ((hr.set j (.int .i64 (-1))).congr (g:=λ b=>.int .i64 (if b<j+1 then -1 else 0)) λ v _=>by
    by_cases e:v=j
    ·simp [e]
    ·simp only [if_neg e];by_cases e2:v<j
     ·rw [if_pos e2,if_pos (by omega)]
     ·rw [if_neg e2,if_neg (by omega)])
   clear hr tZ;go_wp2_with fail
   go_roundw
   case rel=>exact ⟨j+1,by omega,by go_num,HR.out,wU.out.setCell (.inl rfl) _⟩
   case measure=>simp [intOf];omega
  ·(obtain rfl:n=j:=by omega);have rv:=Jj (hr.congr (g:=λ _=>.int .i64 (-1)) λ v hv=>by rw [if_pos hv]);clear hr tZ;have sG:=wU.out.box rK.out (by omega);have tQ:=wU.out.size;have hszW:=ru.out;have tY:=q7g (w:=wr) (B:=M+1) (P:=M+1+1) (K:=M+3) (n:=n) (pl:=λ _=>-1) sG rv.out (by omega) (by omega) (λ _=>.slice none 0 0) (λ v=>v) (xu λ v=>v) (λ _=>[]);have rC:=Jj tY;have tF:∀ b,b<M->(wr.alloc (.cells #[.int .i64 (-1),.int .i64 0] 185)).heap[b]?=w.heap[b]?:=λ b hb=>(Below.heap_alloc _ _ _ (by omega)).trans ((wU.out.block b (by omega) (by omega)).trans (wk.out.block b hb))
   (have rL:Hid (Below M w (wr.alloc (.cells #[.int .i64 (-1),.int .i64 0] 185))):=Jj ⟨wU.out.os.trans wk.out.os,wU.out.tape.trans wk.out.tape,wU.out.output.trans wk.out.output,by have:=wk.out.size;simp;omega,tF⟩);have sj:Hid ((wr.alloc (.cells #[.int .i64 (-1),.int .i64 0] 185)).heap[M]?=some (.cells #[.slice none 0 0,.slice none 0 0,.slice none 0 0] 147)):=Jj ((Below.heap_alloc _ _ _ (by omega)).trans (wU.out.box rH.out (by omega)));(have rn:Hid (M+3<=(wr.alloc (.cells #[.int .i64 (-1),.int .i64 0] 185)).heap.size):=Jj (by simp;omega));clear sG tY tF tQ hszW;(go_upto_region 11 with fail);generalize wr.alloc (.cells #[.int .i64 (-1),.int .i64 0] 185)=w4 at *;generalize wr.heap.size=Hg at *;go_loopg [6] (n * (n+1)+1) (λ gk s6 wq=>∃ (k:Nat) (bl par:Nat->Nat) (ah:Nat->List Nat) (pl:Nat->Int) (op:List (Int × Nat)) (vb vf va:Value) (V:Nat->Value),gk<=n * (n+1)+1/\TvI nx n k bl par ah pl op gk/\TvM wq (M+1) (M+1+1) (M+3) n k vb vf va s6 V bl (xu par) ah pl op/\M+3<=wq.heap.size/\wq.heap[M]?=some (.cells #[.slice none 0 0,.slice none 0 0,.slice none 0 0] 147)/\Below M w wq)
   case atStart=>exact ⟨0,_,_,_,_,_,_,_,_,_,J4 _,TvI.start nx hn _ _ _,rC.out,rn.out,sj.out,rL.out⟩
   case round =>
    obtain ⟨k,bl,par,ah,pl,op,vb,vf,va,V,hgk,hI,hT,hz,hRb,tO⟩:=hrel;have HI:=Jj hI;have HT:=Jj hT;have sj:=Jj hRb;have rJ:=Jj tO;have HZ:=Jj hz;rcases List.eq_nil_or_concat op with rfl | ⟨op,e,rfl⟩
    ·have HE:=Jj (hI.all sM.out hn);obtain ⟨A,c,rfl⟩:=zY hT.ro;obtain ⟨A1,c1,rfl⟩:=zY hT.rb;obtain ⟨A2,c2,rfl⟩:=zY hT.rf;obtain ⟨A3,c3,rfl⟩:=zY hT.ra;rw [show ([]:List (Int × Nat)).length=0 from rfl] at *;have d0:wr.cell? ⟨M+1,0,none⟩=some (.slice A1 k c1):=q6 hT.box 0;have d1:wr.cell? ⟨M+1,1,none⟩=some (.slice A2 k c2):=q6 hT.box 1;have d2:wr.cell? ⟨M+1,2,none⟩=some (.slice A3 k c3):=q6 hT.box 2
     have tu:∀ y,y≠M->(((wr.setCell ⟨M,0,none⟩ (.slice A1 k c1)).setCell ⟨M,1,none⟩ (.slice A2 k c2)).setCell ⟨M,2,none⟩ (.slice A3 k c3)).heap[y]?=wr.heap[y]?:=λ y hy=>((JQ _ _ _ _ hy).trans (JQ _ _ _ _ hy)).trans (JQ _ _ _ _ hy);have tD:(((wr.setCell ⟨M,0,none⟩ (.slice A1 k c1)).setCell ⟨M,1,none⟩ (.slice A2 k c2)).setCell ⟨M,2,none⟩ (.slice A3 k c3)).heap[M]?=some (.cells #[(.slice A1 k c1),(.slice A2 k c2),(.slice A3 k c3)] 147):=qK _ (qK _ (qK _ hRb));have tr:=hT.pool.go (w':=((wr.setCell ⟨M,0,none⟩ (.slice A1 k c1)).setCell ⟨M,1,none⟩ (.slice A2 k c2)).setCell ⟨M,2,none⟩ (.slice A3 k c3)) (λ g hg _=>tu g (by omega));have hr:TvR (((wr.setCell ⟨M,0,none⟩ (.slice A1 k c1)).setCell ⟨M,1,none⟩ (.slice A2 k c2)).setCell ⟨M,2,none⟩ (.slice A3 k c3)) M k (.slice A1 k c1) (.slice A2 k c2) (.slice A3 k c3) V bl par ah:=by
      have e2:∀ v,v<k->q7P _ (M+3) (tvU (.slice A1 k c1) (.slice A2 k c2) (.slice A3 k c3) (.slice A 0 c) V (v+4)) (tvT k bl (xu par) V ah [] (v+4)):=λ v hv=>tr.own (v+4) (by omega);refine ⟨vq (tr.own 0 (by omega)) (by omega),vq (tr.own 1 (by omega)) (by omega),vq (tr.own 2 (by omega)) (by omega),λ v hv=>vq (base:=M+3) ?_ (by omega)⟩;have:=e2 v hv;unfold q7P tvU tvT at this;simpa using this
     have sr:=Jj tD;have HR:=Jj hr;have tM:=Jj (((tO.setCell (p:=⟨M,0,none⟩) (J4 _) (.slice A1 k c1)).setCell (p:=⟨M,1,none⟩) (J4 _) (.slice A2 k c2)).setCell (p:=⟨M,2,none⟩) (J4 _) (.slice A3 k c3));have tY:=q6 hRb 0;have hm1:=q6 hRb 1;have hm2:=q6 hRb 2;(have hf0:wr.frozen? ⟨M,0,none⟩=false:=by unfold World.frozen?;simp [hRb]);(have hf1:wr.frozen? ⟨M,1,none⟩=false:=by unfold World.frozen?;simp [hRb]);have hf2:wr.frozen? ⟨M,2,none⟩=false:=by unfold World.frozen?;simp [hRb]
     clear hI hT hRb tO tu tD tr hr;(go_wp2_with fail);refine bodyPost_ret (results_cell_row rfl _ _ M 147 #[(.slice A1 k c1),(.slice A2 k c2),(.slice A3 k c3)] (0,0) _ (by rfl) sr.out Tryz.underlying147 (by rfl) (by kernel_rfl)) rfl ?_;exact ⟨⟨k,bl,par,ah,pl,_,_,_,V,rfl,HE.out,by rw [<- HM.out];exact HR.out⟩,by rw [<- HM.out];exact tM.out⟩
    ·rw [List.concat_eq_append] at *;have hkn:=hI.kn;obtain ⟨go,cap,rfl,rk,rj,hcap,hcm,tS,tq⟩:=q86 hT.ro;have hnn:n * (n+1)<=1000 * 1001:=Nat.mul_le_mul sW (by omega);have hol:op.length<=2000000:=by
      have h1:=hI.num;simp at h1;omega
     have wW:=(hI.opn e (by simp)).1;have hT1:TvM wr (M+1) (M+1+1) (M+3) n k vb vf va (.slice (some ⟨go,0,none⟩) op.length cap) V bl (xu par) ah pl op:=hT.openG ⟨rfl,rfl,rfl,J4 _,λ _ _ _=>rfl,λ _ h=>.inl h⟩ tq;have sK:=Jj hT1;have rx:=Jj (λ (b:Nat) (hb:b<n) (h0:0<=pl b)=>hI.placed hb h0);clear hI hT hRb tO tq hT1 HT;(go_upto_region 14 with fail);obtain ⟨wa,sw,sS,r8,wh,ww,-⟩:=named wr #[.int .i64 e.1,.int .i64 (e.2:Int)] 185;obtain ⟨N,hN⟩:∃ N,N=wr.heap.size:=⟨_,rfl⟩;rw [<- sw,<- hN]
     have wu:=Jj (sK.out.go wh);(have ce0:wa.cell? ⟨N,0,none⟩=some (.int .i64 e.1):=by rw [hN];exact ww 0 _ rfl);(have ce1:wa.cell? ⟨N,1,none⟩=some (.int .i64 (e.2:Int)):=by rw [hN];exact ww 1 _ rfl);have wm:=wu.out.plr.cell wW;have sE:=wu.out.plr.frozen e.2;(have tL:Hid (q6C (k+4) (tvU vb vf va (.slice (some ⟨go,0,none⟩) op.length cap) V) N):=Jj (λ i hi e=>by have:=((sK.out.pool.own i hi).lt N e).2;omega));have wM:Hid (N<wa.heap.size):=Jj (by omega);have tJ:Hid (wa.heap[M]?=some (.cells #[.slice none 0 0,.slice none 0 0,.slice none 0 0] 147)):=Jj ((wh.block M (by omega)).trans sj.out);have td:Hid (M+3<=wa.heap.size):=Jj (by omega)
     have tN:Hid (Below M w wa):=Jj (rJ.out.trans (wh.mono (by omega)));have rA:Hid (M+3<=N):=Jj (by omega);have sn:Hid (LocD w M N e.1 e.2 (k+4) (tvU vb vf va (.slice (some ⟨go,0,none⟩) op.length cap) V) wa.drew):=Jj ⟨ce0,ce1,tL.out,wM.out,tJ.out,td.out,tN.out.drew,rA.out⟩;(have he0:(0:Int)<=(e.2:Int):=by omega);(have he1':(e.2:Int)<n:=by omega);clear sw sS r8 wh ww rk rj tS hN hz
     by_cases tW:0<=pl e.2
     ·obtain ⟨p,wl,tX,-⟩:=rx.out e.2 wW tW;obtain ⟨u,tp,-,sx,g',tC,hI'⟩:=HI.out.old tX;have tP:=Jj hI';have wX:=Jj tC;have sk:=Jj wl;have HA:=wu;have sq:=tL;(have wZ:Hid ((ah p).length<=2000000):=Jj (by have:=HI.out.few p wl;omega));rw [tX] at wm
      rw [tp] at ce0;(have tV:¬ ((p:Int)<0):=by omega);have hplz':decide ((p:Int)<0)=false:=decide_eq_false tV;(have sR:(0:Int)<=(u:Int):=by omega);clear tX tp tC hI' tW;have wl:p<k:=sk.out;have wR:=HA.out.ra;obtain ⟨ga,capa,ux,wv,tm,ww,tE,hgK,tB⟩:=vH wR wl;obtain ⟨rfl,-⟩:=qu _ tm
      have tj:=HA.out.rV wl;have wJ:=Jj tj;have tH:=Jj wv;have su:=Jj tE;have wO:=Jj (And.intro hgK tB);have ss:=Jj (sq.out (p+4) (by omega));have tz:(ah p).length<=2000000:=wZ.out;(have sV:(0:Int)<=p:=by omega);have sU:((p:Nat):Int)<k:=by omega
      have cbx:wa.cell? ⟨M+1,2,none⟩=some va:=q6 HA.out.box 2;rw [wv] at cbx;have hMw:M+1<wa.heap.size:=(Array.getElem?_eq_some_iff.1 HA.out.box).1;have sZ:M+3<=wa.heap.size:=td.out;clear wR wv tm tE hgK tB tj;(go_upto_region 23 with fail);refine qS (L:=13) (S:=λ w'=>w'.cell? ⟨M+1,2,none⟩=some (.slice (some ⟨ga,0,none⟩) k capa)/\w'.cell? ⟨ga,p,none⟩=some (V p)/\w'.cell? ⟨N,0,none⟩=some (.int .i64 (u:Int))) (by kernel_rfl) (by rfl) (by kernel_rfl) (by kernel_rfl) ?_;change wpAnyH _ _ _ _ _ _ _ _ (World.drew _);have hS:∀ w',Below wa.heap.size wa w'->w'.cell? ⟨M+1,2,none⟩=some (.slice (some ⟨ga,0,none⟩) k capa)/\w'.cell? ⟨ga,p,none⟩=some (V p)/\w'.cell? ⟨N,0,none⟩=some (.int .i64 (u:Int)):=λ w' h=>⟨q7 h _ _ cbx,q7 h _ _ ww,q7 h _ _ ce0⟩
      have hS0:=hS wa.drew (J5 _ _).drew;clear cbx ww ce0 ce1;refine tk 0 84 hS0 ?_;simp only [J6,aS,J1,J2];refine tk 1 85 hS0 ?_;simp only [J6,aS,J1,J2];refine tk 2 86 hS0 ?_;simp only [J6,aS,J1,J2];refine tk 3 87 hS0 ?_
      simp only [J6,aS,J1,J2];refine tk 4 88 hS0 ?_;simp only [J6,aS,J1,J2];refine tk 5 89 hS0 ?_;simp only [J6,aS,J1,J2];refine tk 6 90 hS0 ?_;simp only [J6,aS,J1,J2];refine tk 7 91 hS0 ?_;simp only [J6,aS,J1,J2]
      refine tk 8 92 hS0 ?_;simp only [J6,aS,J1,J2];refine tk 9 93 hS0 ?_;simp only [J6,aS,J1,J2];refine zk (i:=10) (by kernel_rfl) (λ o ho K' hK=>?_);(simp only [JZ,JX,JY,J0] at ho;subst ho);(go_simp);have sc:Below wa.heap.size wa (wa.alloc (.cells #[.int .i64 (u:Int)] 3)).drew:=((J5 _ wa).alloc (J4 _) _).drew;refine hK.out _ _ (hS _ sc) ?_
      clear hK K';refine zk (i:=11) (by kernel_rfl) (λ o ho K' hK=>?_);(simp only [JZ,JX,JY,J0] at ho;subst ho);refine step_append_lies _ (by rfl) _ _ _ (by rfl) (M+3) 3 i0 (.int .i64 0) 1 8 Tryz.underlying27 wT.out.1 wT.out.2.1 wT.out.2.2.1 wT.out.2.2.2 rfl (by decide) (V p) (ah p).length _ (by rfl) (wJ.out.alloc _)
       ⟨wa.heap.size,0,none⟩ 1 1 [.int .i64 (u:Int)] (by rfl) (by rfl) (v7 _ _ _) (by intro u hu;rw [List.mem_singleton.1 hu];rfl) (by decide) (by unfold maxLen;omega) (by omega) (by simp;omega) (wa.heap.size+1) (by simp) ?_
      intro gc cap' wC hownC hgrowC hlocC hltC;have wg:Hid (GroD wa wC (V p) (.slice (some ⟨gc,0,none⟩) ((ah p).length+1) cap')):=Jj (yC (qq (w:=wa.drew) hgrowC hlocC));(have sm:=Jj (HA.out.ahead (u:=u) wl tH.out wg.out (by rw [yG,List.map_append];simpa using hownC)));have hVg:∀ b,b<wa.heap.size->(V p).ownBlock≠some b->wC.heap[b]?=wa.heap[b]?:=wg.out.block;(have hnM:(V p).ownBlock≠some (M+1):=λ e=>by have:=(wJ.out.lt (M+1) e).1;omega);have wV:(V p).ownBlock≠some ga:=λ e=>by
       rcases HA.out.pool.ap (p+4) 2 (by omega) (by omega) (by omega) with h | h
       ·rw [show tvU _ _ _ _ V (p+4)=V p by simp [tvU]] at h;rw [h] at e;cases e
       ·rw [show tvU _ _ _ _ V (p+4)=V p by simp [tvU],e] at h;exact h (by show some ga=Value.ownBlock va;rw [tH.out];rfl)
      (have hnN:(V p).ownBlock≠some N:=by have:=ss.out;rwa [show tvU _ _ _ _ V (p+4)=V p by simp [tvU]] at this);have hSC:wC.cell? ⟨M+1,2,none⟩=some (.slice (some ⟨ga,0,none⟩) k capa)/\wC.cell? ⟨ga,p,none⟩=some (V p)/\wC.cell? ⟨N,0,none⟩=some (.int .i64 (u:Int)):=⟨(JK (a:=⟨M+1,2,none⟩) (hVg _ (by omega) hnM)).trans hS0.1,(JK (a:=⟨ga,p,none⟩) (hVg _ wO.out.2 wV)).trans hS0.2.1,(JK (a:=⟨N,0,none⟩) (hVg _ wM.out hnN)).trans hS0.2.2⟩;have xf:wC.frozen? ⟨ga,p,none⟩=false:=(World.frozen?_of_block (a:=⟨ga,p,none⟩) (hVg _ wO.out.2 wV)).trans su.out;have xc:=hSC.2.1;(have si:Hid ((wC.setCell ⟨ga,p,none⟩ (.slice (some ⟨gc,0,none⟩) ((ah p).length+1) cap')).heap[M]?=some (.cells #[.slice none 0 0,.slice none 0 0,.slice none 0 0] 147)):=Jj ((JQ _ _ _ _ (by have:=wO.out.1;show M≠ga;omega)).trans ((hVg M (by omega) (λ e=>by have:=(wJ.out.lt M e).1;omega)).trans tJ.out)));(have sd:Hid (M+3<=(wC.setCell ⟨ga,p,none⟩ (.slice (some ⟨gc,0,none⟩) ((ah p).length+1) cap')).heap.size):=Jj (by have:=wg.out.size;simp;omega));(have tM:Hid (Below M w (wC.setCell ⟨ga,p,none⟩ (.slice (some ⟨gc,0,none⟩) ((ah p).length+1) cap'))):=Jj (((tN.out:Below M w wa).trans ⟨wg.out.os,wg.out.tape,wg.out.output,wg.out.size,λ b hb=>hVg b (by omega) (λ e=>by have:=(wJ.out.lt b e).1;omega)⟩).setCell (by have:=wO.out.1;show M<=ga;omega) _));refine hK.out _ _ hSC ?_;clear hK K' hgrowC hlocC hownC
      simp only [J6,aS,J1,J2];refine tk 12 96 hSC ?_;simp only [J6,aS,J1,J2];refine wpAnyH_done (by kernel_rfl) ?_ _;refine vL (by decide) (λ o ho K' hK=>?_);(simp only [JZ,JX,JY,J0] at ho;subst ho);(go_simp);refine hK.out _ _ ?_;clear hK K' hSC hS0 hS xc xf hVg hnM wV hnN
      (go_wp2_with fail);go_roundg g'
      case measure=>exact wX.out
      case rel=>exact ⟨k,bl,par,_,pl,op,vb,vf,va,_,by have:=wX.out;omega,tP.out,sm.out,sd.out,si.out,tM.out⟩
     ·have tU:pl e.2=-1:=by
       rcases HI.out.plc e.2 wW with h | ⟨p,-,h,-⟩
       ·exact h
       ·omega
      rw [tU] at wm;(have hpl2:decide ((-1:Int)<0)=true:=by decide);have sL:=Jj tU;(have sQ:=Jj (q8u (M+1) (M+1+1) (M+3) n k vb vf va _ V bl (xu par) ah pl op e.1 e.2 wa.drew ⟨wu.out.box,wu.out.plr,⟨wu.out.pool.own,wu.out.pool.ap⟩,wu.out.lt⟩ (by omega) (by have:=td.out;exact this)));clear tU tW;(go_upto_region 15 with fail);refine qS (L:=6) (S:=λ w'=>w'.cell? ⟨N,0,none⟩=some (.int .i64 e.1)/\w'.cell? ⟨N,1,none⟩=some (.int .i64 (e.2:Int))) (by kernel_rfl) (by rfl) (by kernel_rfl) (by kernel_rfl) ?_;change wpAnyH _ _ _ _ _ _ _ _ (World.drew _);have hS0:wa.drew.cell? ⟨N,0,none⟩=some (.int .i64 e.1)/\wa.drew.cell? ⟨N,1,none⟩=some (.int .i64 (e.2:Int)):=⟨ce0,ce1⟩
      clear ce0 ce1;refine tk 0 49 hS0 ?_;simp only [J6,aS,J1,J2];refine tk 1 50 hS0 ?_;simp only [J6,aS,J1,J2];refine tk 2 51 hS0 ?_;simp only [J6,aS,J1,J2];refine tk 3 52 hS0 ?_;simp only [J6,aS,J1,J2]
      refine zk (i:=4) (by kernel_rfl) (λ o ho K' hK=>?_);(simp only [JZ,JX,JY,J0] at ho;subst ho);(go_simp);refine sQ.out.mono ?_;rintro e' wb ⟨vb',vf',va',rfl,hT',hF'⟩;have hLb:=LocD.step sn.out hF' (λ i hi b hb=>(wu.out.pool.own i hi).lt b hb |>.1);have sO:=Jj hLb;have sJ:=Jj hT';have wm:=hT'.plr.cell wW
      have sE:=hT'.plr.frozen e.2;rw [sL.out] at wm;have hSC:wb.cell? ⟨N,0,none⟩=some (.int .i64 e.1)/\wb.cell? ⟨N,1,none⟩=some (.int .i64 (e.2:Int)):=⟨hLb.1,hLb.2.1⟩;refine hK.out _ _ hSC ?_;clear hK K' hT' hF' hLb;(try simp only [J6,aS,J1,J2]);refine tk 5 54 hSC ?_;simp only [J6,aS,J1,J2];refine wpAnyH_done (by kernel_rfl) ?_ _
      refine vL (by decide) (λ o ho K' hK=>?_);(simp only [JZ,JX,JY,J0] at ho;subst ho);(go_simp);refine hK.out _ _ ?_;clear hK K' hSC hS0;have rt:=Jj (sJ.out.plSet e.2 (k:Int));have sp:=Jj (LocD.setLow sO.out e.2 (.int .i64 (k:Int)));clear wu sJ sO sQ wm sE;generalize wb.setCell ⟨M+1+1,e.2,none⟩ (.int .i64 (k:Int))=wd at *
      (obtain ⟨bg,og,l,sH,hl,rl⟩:=HS.out.at_ (k:=e.2) (by simp;exact wW));simp only [J0,Addr.mk.injEq,and_true] at sH;obtain ⟨rfl,rfl⟩:=sH;have sY:l=zs (nx e.2):=(qu _ hl.out).1;subst sY;obtain ⟨A,c,hcA0,hslA⟩:=rl;(have sI:Below w.heap.size w wd:=by rw [<- HM.out];exact sp.out.2.2.2.2.2.2.1);(have hcA:wd.cell? ⟨G,e.2,none⟩=some (.slice A (nx e.2).length c):=by have:=q7 sI _ _ hcA0;rw [Nat.mul_one,Nat.zero_add,qg] at this;exact this);have sh:=Jj hslA
      have hlnx:=tK.out e.2;have ce1:=sp.out.2.1;clear hslA hl sI hcA0;go_upto_region 17 with fail
      go_loopw [6,61] (λ s6 s61 wq=>∃ j:Nat,j<=(nx e.2).length/\s61=.int .i64 (j:Int)/\TvM wq (M+1) (M+1+1) (M+3) n (k+1) vb' vf' va' s6 (qM V k (.slice none 0 0)) (qM bl k e.2) (qM (xu par) k e.1) (qM ah k []) (qM pl e.2 (k:Int)) (op++((nx e.2).take j).map λ t=>((k:Int),t))/\LocD w M N e.1 e.2 (k+1+4) (tvU vb' vf' va' s6 (qM V k (.slice none 0 0))) wq) (λ _ s61 _=>(nx e.2).length - (intOf s61).toNat)
      case atStart=>exact ⟨0,Nat.zero_le _,rfl,by simpa using rt.out,sp.out⟩
      case round =>
       obtain ⟨j,hj,rfl,wQ,wj⟩:=hrel;have sf:=Jj wQ;have sN:=Jj wj
       by_cases rg:j<(nx e.2).length
       ·(have sb:Below w.heap.size w wr:=by rw [<- HM.out];exact wj.2.2.2.2.2.2.1);(obtain ⟨bt,ot,x,rfl,hx,hxc,-⟩:=(SL.keep (q7 sb) (RInt.keep (q7 sb)) sh.out).int (k:=j) (by rw [qg];exact rg));obtain ⟨t,ht,rfl⟩:=jD hx.out;(have ri:(0:Int)<=j:=by omega);(have rh:(j:Int)<(nx e.2).length:=by omega);have ce1:=wj.2.1;have wm:=wQ.plr.cell wW;rw [qF] at wm;have hll:(op++((nx e.2).take j).map λ t=>((k:Int),t)).length<=2001000:=by simp;omega
        have rq:Hid ((nx e.2).take (j+1)=(nx e.2).take j++[t]):=Jj (qG ht);generalize sB:(op++((nx e.2).take j).map λ t=>((k:Int),t))=op' at *;(have rz:Hid (op++((nx e.2).take (j+1)).map (λ t=>((k:Int),t))=op'++[((k:Int),t)]):=Jj (by rw [rq.out,List.map_append,<- List.append_assoc,sB];rfl));clear sB;have ry:=Jj wQ.ro;have hzr:=wj.2.2.2.2.2.1;clear sb wQ wj hx ht;go_wp2_with (at_builtin;refine wpList_append_lies _ rfl (.tmp 65) (.tmp 73) 186 rfl (M+3) 185 ie (.agg #[.int .i64 0,.int .i64 0]) 2 16 Tryz.underlying186 HE.out.1 HE.out.2.1 HE.out.2.2.1 HE.out.2.2.2 rfl (by decide) u6 _ _ rfl (ry.out.alloc _) ⟨wr.heap.size,0,none⟩ 1 1 [.int .i64 (k:Int),.int .i64 (t:Int)] rfl rfl ?e1 ?e2 ?e0 ?e3 ?e4 ?e5 (wr.heap.size+1) ?e6 ?_)
        case e1=>exact q1Z wr _ _ _
        case e2=>intro u hu;simp at hu;rcases hu with rfl | rfl <;> rfl
        case e0=>omega
        case e3=>unfold maxLen;omega
        case e4=>omega
        case e5=>simp;omega
        case e6=>simp
        intro gc cap' wA hownC hgrowC hlocC hltC;have wg:Hid (GroD wr wA u6 (.slice (some ⟨gc,0,none⟩) (op'.length+1) cap')):=Jj (qq (w:=wr) hgrowC hlocC);(have rp:=Jj (sf.out.openG (op':=op++((nx e.2).take (j+1)).map λ t=>((k:Int),t)) wg.out (by rw [rz.out,q0z];simpa using hownC)));have rD:=Jj (LocD.step sN.out ((FrD.gro (B:=M+1) (m:=k+1+4) (t:=3) (U:=tvU vb' vf' va' u6 (qM V k (.slice none 0 0))) (by omega) wg.out).congr (U'':=tvU vb' vf' va' (.slice (some ⟨gc,0,none⟩) (op'.length+1) cap') (qM V k (.slice none 0 0))) (q7h _ _)) (λ i hi b hb=>(sf.out.pool.own i hi).lt b hb |>.1));clear hownC hgrowC hlocC hltC wg wm ce1;go_wp2_with fail
        go_roundw
        case rel=>exact ⟨j+1,by omega,by go_num,rp.out,rD.out⟩
        case measure=>simp [intOf];omega
       ·have sD:(nx e.2).take j=nx e.2:=List.take_of_length_le (by omega);rw [sD] at wQ;obtain ⟨-,-,g',tC,hI'⟩:=HI.out.new sM.out tK.out sL.out;have tP:=Jj hI';have wX:=Jj tC;have HA:=Jj wQ;have wm:=wQ.plr.cell wW;rw [qF] at wm;have ce0:=wj.1
        have ce1:=wj.2.1;have sq:=Jj wj.2.2.1;have wM:=Jj wj.2.2.2.1;have tJ:=Jj wj.2.2.2.2.1;have td:=Jj wj.2.2.2.2.2.1;have tN:=Jj wj.2.2.2.2.2.2.1;have sk:Hid (k<k+1):=Jj (by omega);(have wZ:Hid ((qM ah k [] k).length<=2000000):=Jj (by rw [qF];simp));have rF:=Jj (HI.out.opn e (by simp)).2
        clear wQ wj sD tC hI' sf sN;rcases rF.out with ⟨sF,r9,-⟩ | ⟨u,sx,tp,-,-⟩
        ·have wY:Hid (∀ v,v<k+1->qM (xu par) k e.1 v=xu (qM par k e.1.toNat) v):=Jj (λ v hv=>by
          (have:v=k:=by omega);subst this
          rw [qF,sF];unfold xu;rw [if_pos r9])
         have ta:Hid (∀ v,v<k+1->qM ah k [] v=qM ah k (if e.1<0 then [] else [e.1.toNat]) v):=Jj (λ v _=>by rw [if_pos (by omega)]);rw [sF] at ce0;(go_wp2_with fail);go_roundg g'
         case measure=>exact wX.out
         case rel=>exact ⟨k+1,_,_,_,_,_,vb',vf',va',_,by have:=wX.out;omega,tP.out,HA.out.congr wY.out ta.out,td.out,tJ.out,tN.out⟩
        ·have wY:Hid (∀ v,v<k+1->qM (xu par) k e.1 v=xu (qM par k e.1.toNat) v):=Jj (λ v hv=>by
          by_cases e1:v=k
          ·subst e1;rw [qF];unfold xu;rw [qF,if_neg (by omega)];omega
          ·rw [q8 _ _ e1];unfold xu;rw [q8 _ _ e1])
         have ta:Hid (∀ v,v<k+1->qM (qM ah k []) k (qM ah k [] k++[u]) v=qM ah k (if e.1<0 then [] else [e.1.toNat]) v):=Jj (λ v _=>by
          by_cases e1:v=k
          ·subst e1;rw [qF,qF,qF,if_neg (by omega)];(have:e.1.toNat=u:=by omega);rw [this];rfl
          ·rw [q8 _ _ e1,q8 _ _ e1,q8 _ _ e1])
         rw [tp] at ce0;(have sR:(0:Int)<=(u:Int):=by omega);clear sx tp;have wl:k<(k+1):=sk.out;have wR:=HA.out.ra;obtain ⟨ga,capa,ux,wv,tm,ww,tE,hgK,tB⟩:=vH wR wl;obtain ⟨rfl,-⟩:=qu _ tm;have tj:=HA.out.rV wl;have wJ:=Jj tj
         have tH:=Jj wv;have su:=Jj tE;have wO:=Jj (And.intro hgK tB);have ss:=Jj (sq.out (k+4) (by omega));have tz:((qM ah k []) k).length<=2000000:=wZ.out;(have sV:(0:Int)<=k:=by omega);(have sU:((k:Nat):Int)<(k+1):=by omega);have cbx:wr.cell? ⟨M+1,2,none⟩=some va':=q6 HA.out.box 2;rw [wv] at cbx
         have hMw:M+1<wr.heap.size:=(Array.getElem?_eq_some_iff.1 HA.out.box).1;have sZ:M+3<=wr.heap.size:=td.out;clear wR wv tm tE hgK tB tj;(go_upto_region 23 with fail);refine qS (L:=13) (S:=λ w'=>w'.cell? ⟨M+1,2,none⟩=some (.slice (some ⟨ga,0,none⟩) (k+1) capa)/\w'.cell? ⟨ga,k,none⟩=some ((qM V k (.slice none 0 0)) k)/\w'.cell? ⟨N,0,none⟩=some (.int .i64 (u:Int))) (by kernel_rfl) (by rfl) (by kernel_rfl) (by kernel_rfl) ?_;change wpAnyH _ _ _ _ _ _ _ _ (World.drew _);have hS:∀ w',Below wr.heap.size wr w'->w'.cell? ⟨M+1,2,none⟩=some (.slice (some ⟨ga,0,none⟩) (k+1) capa)/\w'.cell? ⟨ga,k,none⟩=some ((qM V k (.slice none 0 0)) k)/\w'.cell? ⟨N,0,none⟩=some (.int .i64 (u:Int)):=λ w' h=>⟨q7 h _ _ cbx,q7 h _ _ ww,q7 h _ _ ce0⟩;have hS0:=hS wr.drew (J5 _ _).drew;clear cbx ww ce0 ce1
         refine tk 0 84 hS0 ?_;simp only [J6,aS,J1,J2];refine tk 1 85 hS0 ?_;simp only [J6,aS,J1,J2];refine tk 2 86 hS0 ?_;simp only [J6,aS,J1,J2];refine tk 3 87 hS0 ?_;simp only [J6,aS,J1,J2];refine tk 4 88 hS0 ?_
         simp only [J6,aS,J1,J2];refine tk 5 89 hS0 ?_;simp only [J6,aS,J1,J2];refine tk 6 90 hS0 ?_;simp only [J6,aS,J1,J2];refine tk 7 91 hS0 ?_;simp only [J6,aS,J1,J2];refine tk 8 92 hS0 ?_;simp only [J6,aS,J1,J2]
         refine tk 9 93 hS0 ?_;simp only [J6,aS,J1,J2];refine zk (i:=10) (by kernel_rfl) (λ o ho K' hK=>?_);(simp only [JZ,JX,JY,J0] at ho;subst ho);(go_simp);have sc:Below wr.heap.size wr (wr.alloc (.cells #[.int .i64 (u:Int)] 3)).drew:=((J5 _ wr).alloc (J4 _) _).drew;refine hK.out _ _ (hS _ sc) ?_;clear hK K';refine zk (i:=11) (by kernel_rfl) (λ o ho K' hK=>?_)
         (simp only [JZ,JX,JY,J0] at ho;subst ho);refine step_append_lies _ (by rfl) _ _ _ (by rfl) (M+3) 3 i0 (.int .i64 0) 1 8 Tryz.underlying27 wT.out.1 wT.out.2.1 wT.out.2.2.1 wT.out.2.2.2 rfl (by decide) ((qM V k (.slice none 0 0)) k) ((qM ah k []) k).length _ (by rfl) (wJ.out.alloc _)
          ⟨wr.heap.size,0,none⟩ 1 1 [.int .i64 (u:Int)] (by rfl) (by rfl) (v7 _ _ _) (by intro u hu;rw [List.mem_singleton.1 hu];rfl) (by decide) (by unfold maxLen;omega) (by omega) (by simp;omega) (wr.heap.size+1) (by simp) ?_
         intro gc cap' wC hownC hgrowC hlocC hltC;have wg:Hid (GroD wr wC ((qM V k (.slice none 0 0)) k) (.slice (some ⟨gc,0,none⟩) (((qM ah k []) k).length+1) cap')):=Jj (yC (qq (w:=wr.drew) hgrowC hlocC));(have sm:=Jj (HA.out.ahead (u:=u) wl tH.out wg.out (by rw [yG,List.map_append];simpa using hownC)));have hVg:∀ b,b<wr.heap.size->((qM V k (.slice none 0 0)) k).ownBlock≠some b->wC.heap[b]?=wr.heap[b]?:=wg.out.block;(have hnM:((qM V k (.slice none 0 0)) k).ownBlock≠some (M+1):=λ e=>by have:=(wJ.out.lt (M+1) e).1;omega);have wV:((qM V k (.slice none 0 0)) k).ownBlock≠some ga:=λ e=>by
          rcases HA.out.pool.ap (k+4) 2 (by omega) (by omega) (by omega) with h | h
          ·rw [show tvU _ _ _ _ (qM V k (.slice none 0 0)) (k+4)=(qM V k (.slice none 0 0)) k by simp [tvU]] at h;rw [h] at e;cases e
          ·rw [show tvU _ _ _ _ (qM V k (.slice none 0 0)) (k+4)=(qM V k (.slice none 0 0)) k by simp [tvU],e] at h;exact h (by show some ga=Value.ownBlock va';rw [tH.out];rfl)
         (have hnN:((qM V k (.slice none 0 0)) k).ownBlock≠some N:=by have:=ss.out;rwa [show tvU _ _ _ _ (qM V k (.slice none 0 0)) (k+4)=(qM V k (.slice none 0 0)) k by simp [tvU]] at this);have hSC:wC.cell? ⟨M+1,2,none⟩=some (.slice (some ⟨ga,0,none⟩) (k+1) capa)/\wC.cell? ⟨ga,k,none⟩=some ((qM V k (.slice none 0 0)) k)/\wC.cell? ⟨N,0,none⟩=some (.int .i64 (u:Int)):=⟨(JK (a:=⟨M+1,2,none⟩) (hVg _ (by omega) hnM)).trans hS0.1,(JK (a:=⟨ga,k,none⟩) (hVg _ wO.out.2 wV)).trans hS0.2.1,(JK (a:=⟨N,0,none⟩) (hVg _ wM.out hnN)).trans hS0.2.2⟩;have xf:wC.frozen? ⟨ga,k,none⟩=false:=(World.frozen?_of_block (a:=⟨ga,k,none⟩) (hVg _ wO.out.2 wV)).trans su.out;have xc:=hSC.2.1;(have si:Hid ((wC.setCell ⟨ga,k,none⟩ (.slice (some ⟨gc,0,none⟩) (((qM ah k []) k).length+1) cap')).heap[M]?=some (.cells #[.slice none 0 0,.slice none 0 0,.slice none 0 0] 147)):=Jj ((JQ _ _ _ _ (by have:=wO.out.1;show M≠ga;omega)).trans ((hVg M (by omega) (λ e=>by have:=(wJ.out.lt M e).1;omega)).trans tJ.out)));(have sd:Hid (M+3<=(wC.setCell ⟨ga,k,none⟩ (.slice (some ⟨gc,0,none⟩) (((qM ah k []) k).length+1) cap')).heap.size):=Jj (by have:=wg.out.size;simp;omega));(have tM:Hid (Below M w (wC.setCell ⟨ga,k,none⟩ (.slice (some ⟨gc,0,none⟩) (((qM ah k []) k).length+1) cap'))):=Jj (((tN.out:Below M w wr).trans ⟨wg.out.os,wg.out.tape,wg.out.output,wg.out.size,λ b hb=>hVg b (by omega) (λ e=>by have:=(wJ.out.lt b e).1;omega)⟩).setCell (by have:=wO.out.1;show M<=ga;omega) _));refine hK.out _ _ hSC ?_;clear hK K' hgrowC hlocC hownC
         simp only [J6,aS,J1,J2];refine tk 12 96 hSC ?_;simp only [J6,aS,J1,J2];refine wpAnyH_done (by kernel_rfl) ?_ _;refine vL (by decide) (λ o ho K' hK=>?_);(simp only [JZ,JX,JY,J0] at ho;subst ho);(go_simp);refine hK.out _ _ ?_;clear hK K' hSC hS0 hS xc xf hVg hnM wV hnN
         (go_wp2_with fail);go_roundg g'
         case measure=>exact wX.out
         case rel=>exact ⟨k+1,_,_,_,_,_,vb',vf',va',_,by have:=wX.out;omega,tP.out,sm.out.congr wY.out ta.out,sd.out,si.out,tM.out⟩
end Go.Proofs.YtfoggldjjnabcaaGreatDoor
