/- The program's travel: from block 0 through all blocks that are reached. -/
import Derived.Test.YtfoggldjjnabcaaGreatDoorDmCJ
import Derived.WalkSmall
namespace Go.Proofs.YtfoggldjjnabcaaGreatDoor
open Go.ChangeShapes Go.WideShapes Go.RowKit Go.Deep
set_option linter.unusedVariables false
def frmP (par:Nat→Nat) (v:Nat):Int:=if v=0 then -1 else (par v:Int)
structure TvR (w:World) (K k:Nat) (vb vf va:Value) (V:Nat→Value) (bl par:Nat→Nat) (ah:Nat→List Nat):Prop where
  rb:w.ownsRow K 3 1 vb k ((List.range k).map fun v=>.int .i64 (bl v:Int))
  rf:w.ownsRow K 3 1 vf k ((List.range k).map fun v=>.int .i64 (frmP par v))
  ra:w.ownsRow K 27 1 va k ((List.range k).map V)
  rV:∀ v,v<k→w.ownsRow K 3 1 (V v) (ah v).length ((zs (ah v)).map (Value.int .i64))
def ToldTv (nx:Nat→List Nat) (n:Nat) (w:World) (e:Ending) (w':World):Prop :=
  (∃ (k:Nat) (bl par:Nat→Nat) (ah:Nat→List Nat) (pl:Nat→Int) (vb vf va:Value) (V:Nat→Value),e=.returned (.agg #[vb,vf,va])∧TvE nx n k bl par ah pl∧TvR w' w.heap.size k vb vf va V bl par ah)∧Below w.heap.size w w'
theorem boxes3t (w:World) (M:Nat) (hM:M=w.heap.size) (o0 o1 o2:Obj) (W:World) (hW:W=((w.alloc o0).alloc o1).alloc o2) :
    W.heap[M]?=some o0∧W.heap[M+1]?=some o1∧W.heap[M+1+1]?=some o2∧W.heap.size=M+3∧Below M w W:=by
  subst hM hW;(have hz (u:World) (o:Obj):(u.alloc o).heap.size=u.heap.size+1:=by simp);have hg (u:World) (o:Obj) (k:Nat):(u.alloc o).heap[k]?=if k=u.heap.size then some o else u.heap[k]?:=by
    show (u.heap.push o)[k]?=_;rw [Array.getElem?_push]
  refine ⟨?_,?_,?_,?_,?_⟩
  · (simp only [hg,hz];repeat rw [if_neg (by omega)]);exact if_pos (by first | trivial | omega)
  · (simp only [hg,hz];repeat rw [if_neg (by omega)]);exact if_pos (by first | trivial | omega)
  · (simp only [hg,hz];repeat rw [if_neg (by omega)]);exact if_pos (by first | trivial | omega)
  · simp [hz]
  · refine (((Below.refl _ w).alloc ?_ _).alloc ?_ _).alloc ?_ _;all_goals (simp [hz];try omega)
theorem tv_start {w:World} {B P K n:Nat} {pl:Nat→Int} (hB:w.heap[B]?=some (.cells #[.slice none 0 0,.slice none 0 0,.slice none 0 0] 147)) (hP:w.rowIs P 3 n (fun b=>Value.int .i64 (pl b))) (hK:K≤w.heap.size) (hlt:B<K∧P<K∧B≠P)
    (V:Nat→Value) (bl:Nat→Nat) (frm:Nat→Int) (ah:Nat→List Nat):TvM (w.alloc (.cells #[.int .i64 (-1),.int .i64 0] 185)) B P K n 0 (.slice none 0 0) (.slice none 0 0) (.slice none 0 0) (.slice (some ⟨w.heap.size,0,none⟩) 1 1) V bl frm ah pl [(-1,0)]:=by
  have hb:=(Below.refl w.heap.size w).alloc (Nat.le_refl _) (.cells #[.int .i64 (-1),.int .i64 0] 185);refine ⟨(hb.block B (Array.getElem?_eq_some_iff.1 hB).1).trans hB,hP.of_block (hb.block P hP.lt),⟨fun i hi=>?_,fun i j hi hj hij=>?_⟩,hlt⟩
  · rcases (by omega:i=0∨i=1∨i=2∨i=3) with rfl | rfl | rfl | rfl
    · exact World.ownsRow_nil _ _ _ _
    · exact World.ownsRow_nil _ _ _ _
    · exact World.ownsRow_nil _ _ _ _
    · exact World.ownsRow_lit w #[.int .i64 (-1),.int .i64 0] 1 hK (by unfold maxLen;omega) rfl
  · rcases (by omega:i=0∨i=1∨i=2∨i=3) with rfl | rfl | rfl | rfl
    · exact .inl rfl
    · exact .inl rfl
    · exact .inl rfl
    · right;rcases (by omega:j=0∨j=1∨j=2) with rfl | rfl | rfl <;> (intro e;cases e)
section
variable {w w1:World} {B P K n k:Nat} {vb vf va vo:Value} {V:Nat→Value} {bl:Nat→Nat} {frm:Nat→Int} {ah:Nat→List Nat} {pl:Nat→Int} {op:List (Int × Nat)}
theorem TvM.openG (h:TvM w B P K n k vb vf va vo V bl frm ah pl op) {vo':Value} {op':List (Int × Nat)} (hg:GroD w w1 vo vo') (ho:w1.ownsRow K 185 2 vo' op'.length (flatE op')):TvM w1 B P K n k vb vf va vo' V bl frm ah pl op':=by
  obtain ⟨h1,h2,h3⟩:=h.grow (t:=3) (v':=vo') (r:=⟨185,2,op'.length,flatE op'⟩) (by omega) hg ho;refine ⟨h1,h2,h3.congr (fun i hi=>?_) (fun i hi=>?_),h.lt⟩
  · rcases Nat.lt_or_ge i 4 with h | h
    · rcases (by omega:i=0∨i=1∨i=2∨i=3) with rfl | rfl | rfl | rfl <;> simp [updF,tvU]
    · obtain ⟨j,rfl⟩:∃ j,i=j+4:=⟨i - 4,by omega⟩;simp [updF,tvU]
  · rcases Nat.lt_or_ge i 4 with h | h
    · rcases (by omega:i=0∨i=1∨i=2∨i=3) with rfl | rfl | rfl | rfl <;> simp [updF,tvT]
    · obtain ⟨j,rfl⟩:∃ j,i=j+4:=⟨i - 4,by omega⟩;simp [updF,tvT]
theorem TvM.plSet (h:TvM w B P K n k vb vf va vo V bl frm ah pl op) (b:Nat) (x:Int):TvM (w.setCell ⟨P,b,none⟩ (.int .i64 x)) B P K n k vb vf va vo V bl frm ah (updF pl b x) op:=by
  have hlt:=h.lt;have hs:∀ y,y≠P→(w.setCell ⟨P,b,none⟩ (.int .i64 x)).heap[y]?=w.heap[y]?:=fun y hy=>Below.heap_setCell _ _ _ _ hy;exact ⟨(hs B hlt.2.2).trans h.box,(h.plr.set b (.int .i64 x)).congr fun v _=>by unfold updF;by_cases e:v=b <;> simp [e],h.pool.go fun g hg _=>hs g (by omega),hlt⟩
theorem TvM.ahead (h:TvM w B P K n k vb vf va vo V bl frm ah pl op) {p u ga cap:Nat} {v':Value} (hp:p<k) (hva:va=.slice (some ⟨ga,0,none⟩) k cap) (hg:GroD w w1 (V p) v') (ho:w1.ownsRow K 3 1 v' (ah p++[u]).length ((zs (ah p++[u])).map (Value.int .i64))) :
    TvM (w1.setCell ⟨ga,p,none⟩ v') B P K n k vb vf va vo (updF V p v') bl frm (updF ah p (ah p++[u])) pl op:=by
  (have hVp:tvU vb vf va vo V (p+4)=V p:=by simp [tvU]);(obtain ⟨h1,h2,h3⟩:=h.grow (t:=p+4) (v':=v') (r:=⟨3,1,(ah p++[u]).length,(zs (ah p++[u])).map (Value.int .i64)⟩) (by omega) (by rw [hVp];exact hg) ho);have hlt:=h.lt;subst hva;have hra:w1.ownsRow K 27 1 (.slice (some ⟨ga,0,none⟩) k cap) k ((List.range k).map V):=by
    have:=h3.own 2 (by omega);rw [q9 _ _ (by omega),q9 _ _ (by omega)] at this;exact this
  have hgK:=(hra.lt ga rfl).1;have hst:=(hra.stored p v').1;rw [map_range_set] at hst;have h4:=h3.gro (t:=2) (v':=.slice (some ⟨ga,0,none⟩) k cap) (r:=⟨27,1,k,(List.range k).map (updF V p v')⟩) (by omega)
    (by rw [q9 _ _ (by omega)];exact groD_store w1 v') hst
  have hs:∀ y,y≠ga→(w1.setCell ⟨ga,p,none⟩ v').heap[y]?=w1.heap[y]?:=fun y hy=>Below.heap_setCell _ _ _ _ hy;refine ⟨(hs B (by omega)).trans h1,h2.of_block (hs P (by omega)),h4.congr (fun i hi=>?_) (fun i hi=>?_),hlt⟩
  · rcases Nat.lt_or_ge i 4 with h | h
    · rcases (by omega:i=0∨i=1∨i=2∨i=3) with rfl | rfl | rfl | rfl <;> simp [updF,tvU]
    · obtain ⟨j,rfl⟩:∃ j,i=j+4:=⟨i - 4,by omega⟩
      by_cases e:j=p
      · subst e;simp [updF,tvU]
      · simp [updF,tvU,e]
  · rcases Nat.lt_or_ge i 4 with h | h
    · rcases (by omega:i=0∨i=1∨i=2∨i=3) with rfl | rfl | rfl | rfl <;> simp [updF,tvT]
    · obtain ⟨j,rfl⟩:∃ j,i=j+4:=⟨i - 4,by omega⟩
      by_cases e:j=p
      · subst e;simp [updF,tvT]
      · simp [updF,tvT,e]
theorem TvM.congr (h:TvM w B P K n k vb vf va vo V bl frm ah pl op) {frm':Nat→Int} {ah':Nat→List Nat} (hf:∀ v,v<k→frm v=frm' v) (ha:∀ v,v<k→ah v=ah' v):TvM w B P K n k vb vf va vo V bl frm' ah' pl op:=by
  refine ⟨h.box,h.plr,h.pool.congr (fun _ _=>rfl) (fun i hi=>?_),h.lt⟩;rcases Nat.lt_or_ge i 4 with h | h
  · rcases (by omega:i=0∨i=1∨i=2∨i=3) with rfl | rfl | rfl | rfl
    · rfl
    · show RowD.mk _ _ _ _=RowD.mk _ _ _ _;(congr 1);exact List.map_congr_left fun v hv=>by rw [hf v (List.mem_range.1 hv)]
    · rfl
    · rfl
  · obtain ⟨j,rfl⟩:∃ j,i=j+4:=⟨i - 4,by omega⟩;simp [tvT,ha j (by omega)]
end
theorem tvU_open {m:Nat} {vb vf va:Value} {V:Nat→Value} (vo vo':Value):∀ i,i<m→tvU vb vf va vo' V i=updF (tvU vb vf va vo V) 3 vo' i:=fun i _=>by
  by_cases e:i=3
  · subst e;simp [updF,tvU]
  · simp [updF,tvU,e]
theorem cell_two_new_ (w:World) (x y:Value) (t:TypeId):∀ j u,[x,y][j]?=some u→(w.alloc (.cells #[x,y] t)).cell? ((⟨w.heap.size,0,none⟩:Addr).add j)=some u:=by
  intro j u hj;(have hl:j<2:=by have:=(List.getElem?_eq_some_iff.1 hj).1;simpa using this);have hb:=heap_alloc_new w (.cells #[x,y] t);rcases (by omega:j=0∨j=1) with rfl | rfl
  · simp at hj;subst hj;exact q7 hb 0
  · simp at hj;subst hj;exact q7 hb 1
theorem qg {w:World} {K n size:Nat} {e:TypeId} {v:Value} {xs:List Value} (h:w.ownsRow K e size v n xs):∃ A c,v=.slice A n c:=by
  rcases h.2 with ⟨h1,h2⟩ | ⟨g,cap,cur,h1,-⟩
  · exact ⟨_,_,by rw [h1,h2]⟩
  · exact ⟨_,_,h1⟩
def LocD (w:World) (M N:Nat) (ef:Int) (et m:Nat) (U:Nat→Value) (wq:World):Prop :=
  wq.cell? ⟨N,0,none⟩=some (.int .i64 ef)∧wq.cell? ⟨N,1,none⟩=some (.int .i64 (et:Int))∧FreeD m U N∧N<wq.heap.size∧wq.heap[M]?=some (.cells #[.slice none 0 0,.slice none 0 0,.slice none 0 0] 147)∧M+3≤wq.heap.size∧Below M w wq∧M+3≤N
theorem LocD.step {w wq wq':World} {M N et m m':Nat} {ef:Int} {U U':Nat→Value} (h:LocD w M N ef et m U wq) (hf:FrD (M+1) m m' U U' wq wq') (hU:∀ i,i<m→∀ b,(U i).ownBlock=some b→M+3≤b):LocD w M N ef et m' U' wq':=by
  obtain ⟨h1,h2,h3,h4,h5,h6,h7,h8⟩:=h;have hs:=hf.size;obtain ⟨hN,hF⟩:=hf.block N h4 (by omega) h3;(have hlow:∀ b,b<M+1→wq'.heap[b]?=wq.heap[b]?:=fun b hb=>(hf.block b (by omega) (by omega) (fun i hi e=>by have:=hU i hi b e;omega)).1);exact ⟨(World.cell?_of_block (a:=⟨N,0,none⟩) hN).trans h1,(World.cell?_of_block (a:=⟨N,1,none⟩) hN).trans h2,hF,by omega,(hlow M (by omega)).trans h5,by omega,h7.trans ⟨hf.os,hf.tape,hf.output,hf.size,fun b hb=>hlow b (by omega)⟩,h8⟩
theorem LocD.setLow {w wq:World} {M N et m:Nat} {ef:Int} {U:Nat→Value} (h:LocD w M N ef et m U wq) (i:Nat) (v:Value):LocD w M N ef et m U (wq.setCell ⟨M+1+1,i,none⟩ v):=by
  obtain ⟨h1,h2,h3,h4,h5,h6,h7,h8⟩:=h;have hs:∀ y,y≠M+1+1→(wq.setCell ⟨M+1+1,i,none⟩ v).heap[y]?=wq.heap[y]?:=fun y hy=>Below.heap_setCell _ _ _ _ hy;exact ⟨(World.cell?_of_block (a:=⟨N,0,none⟩) (hs N (by omega))).trans h1,(World.cell?_of_block (a:=⟨N,1,none⟩) (hs N (by omega))).trans h2,h3,by simpa using h4,(hs M (by omega)).trans h5,by simpa using h6,h7.setCell (by show M≤M+1+1;omega) _,h8⟩
theorem Tryz.info185:(Tryz.prog.info? 185).map (fun i=>(i.zero,i.size,i.bytes))=some (some (.agg #[.int .i64 0,.int .i64 0]),2,16):=by kernel_rfl
theorem size_edge (w:World):(sizeOf (Tryz.prog.elem 186)).run Tryz.prog w=.ok 2 w:=by kernel_rfl
theorem elem_edges:Tryz.prog.underlying 186=some (.slice (Tryz.prog.elem 186)):=by kernel_rfl
theorem flatE_len (op:List (Int × Nat)):(flatE op).length=op.length * 2:=by
  induction op with
  | nil=>rfl
  | cons e op ih=>show ([Value.int .i64 e.1,Value.int .i64 (e.2:Int)]++flatE op).length=_;simp [ih];omega
theorem flatE_snoc (op:List (Int × Nat)) (e:Int × Nat):flatE (op++[e])=flatE op++[.int .i64 e.1,.int .i64 (e.2:Int)]:=by simp [flatE]
theorem own_popE {w:World} {K:Nat} {v:Value} {op:List (Int × Nat)} {e:Int × Nat} (h:w.ownsRow K 185 2 v (op++[e]).length (flatE (op++[e]))) :
    ∃ g cap,v=.slice (some ⟨g,0,none⟩) (op.length+1) cap∧w.cell? ⟨g,op.length * 2,none⟩=some (.int .i64 e.1)∧w.cell? ⟨g,op.length * 2+1,none⟩=some (.int .i64 (e.2:Int))∧op.length+1≤cap∧cap≤maxLen ∧
      (∀ W,(Instr.slice 186 (.slice (some ⟨g,0,none⟩) (op.length+1) cap) none (some (.int .i64 op.length)) none).run Tryz.prog W=.ok (.slice (some ⟨g,0,none⟩) op.length cap) W) ∧
      w.ownsRow K 185 2 (.slice (some ⟨g,0,none⟩) op.length cap) op.length (flatE op):=by
  (have hl:(op++[e]).length=op.length+1:=by simp);rw [hl] at h;have h0:=h;obtain ⟨h1,⟨-,h2⟩ | ⟨g,cap,cur,rfl,hb,hh,hn,hc,hsz,ht⟩⟩:=h
  · omega
  · have hf:=flatE_len op;have hs:=flatE_snoc op e;refine ⟨g,cap,rfl,?_,?_,hn,hc,fun W=>?_,ownsRow_pop hf (by rw [← hs];exact h0)⟩
    · rw [h0.cellAt _ (by omega),hs,List.getElem?_append_right (by omega)];simp [hf]
    · rw [h0.cellAt _ (by omega),hs,List.getElem?_append_right (by omega)];simp [hf]
    · rw [run_slice_h W 186 (some ⟨g,0,none⟩) (op.length+1) cap elem_edges .i64 op.length (by omega) (by omega),size_edge];(have hc0:cap≠0:=by omega);simp [Result.andThen,sliced,hc0,Addr.add]
set_option maxRecDepth 100000 in
set_option maxHeartbeats 8000000 in
theorem travel_any (nx:Nat→List Nat) (n G:Nat) (w:World) (h:SL w 1 RRow (some ⟨G,0,none⟩) n ((List.range n).map fun i=>zs (nx i))) (hn:0<n) (hn2:n≤1000) (hnx:∀ x,∀ t∈nx x,t<n) (hlen:∀ x,(nx x).length≤n) :
    Calls Tryz.prog 96 #[.slice (some ⟨G,0,none⟩) n n] w (ToldTv nx n w):=by
  have hmk:=run_make_row' (P:=Tryz.prog) 27 3 (.int .i64 0) 8 Tryz.underlying27 Tryz.info3 rfl .i64 .i64 n (by omega) (by omega);(have hne:((n:Int) == 0)=false:=by simp;omega);obtain ⟨i0,hi,hz0,hz1,hz2⟩:=info_parts Tryz.info3;have HI0:=Lib.hid (And.intro hi (And.intro hz0 (And.intro hz1 hz2)));clear hi hz0 hz1 hz2;obtain ⟨ie,hi,hz0,hz1,hz2⟩:=info_parts Tryz.info185;have HE:=Lib.hid (And.intro hi (And.intro hz0 (And.intro hz1 hz2)));clear hi hz0 hz1 hz2;have HS:=Lib.hid h
  have HNX:=Lib.hid hnx;have HLEN:=Lib.hid hlen;clear h hnx hlen;(go_enter Tryz.func96,Tryz.ntmps96);(go_upto_region 5 with fail);clear hmk;obtain ⟨M,hM⟩:∃ M,M=w.heap.size:=⟨_,rfl⟩;obtain ⟨W,hW⟩:∃ W,W=((w.alloc (.cells #[.slice none 0 0,.slice none 0 0,.slice none 0 0] 147)).alloc (.cells #[.slice none 0 0,.slice none 0 0,.slice none 0 0] 147)).alloc (.cells (madeCells #[.int .i64 0] n) 3):=⟨_,rfl⟩;rw [← hW]
  obtain ⟨b0,b1,b2,hsz,hbel⟩:=boxes3t w M hM _ _ _ W hW;have hrow:=row_made b2;have HBM:=Lib.hid b0;have HBB:=Lib.hid b1;have HBEL:=Lib.hid hbel;have HSZ:=Lib.hid hsz;have HM:=Lib.hid hM;rw [← hM];clear hW b0 b1 b2 hbel hsz hM
  go_wp2_with fail
  go_loopw [20] (fun i wr=>∃ j:Nat,j≤n∧i=.int .i64 j∧wr.rowIs (M+1+1) 3 n (fun b=>.int .i64 (if b<j then -1 else 0))∧FrX (fun b=>b=M+1+1) W wr) (fun i _=>n - (intOf i).toNat)
  case atStart=>exact ⟨0,Nat.zero_le _,rfl,hrow.congr fun _ _=>rfl,FrX.refl _ _⟩
  case round =>
    obtain ⟨j,hj,rfl,hr,hfr⟩:=hrel;have HFR:=Lib.hid hfr
    by_cases hjn:j<n
    · (have e1:wr.cell? ⟨M+1+1,j,none⟩=some (.int .i64 0):=by have:=hr.cell hjn;simpa using this);have f1:=hr.frozen j;(have hj0:(0:Int)≤j:=by omega);have hj1:(j:Int)<n:=by omega
      have HR:=Lib.hid ((hr.set j (.int .i64 (-1))).congr (g:=fun b=>.int .i64 (if b<j+1 then -1 else 0)) fun v _=>by
        by_cases e:v=j
        · simp [e]
        · simp only [if_neg e];by_cases e2:v<j
          · rw [if_pos e2,if_pos (by omega)]
          · rw [if_neg e2,if_neg (by omega)])
      clear hr hfr;go_wp2_with fail
      go_roundw
      case rel=>exact ⟨j+1,by omega,by go_num,HR.out,HFR.out.setCell (.inl rfl) _⟩
      case measure=>simp [intOf];omega
    · (obtain rfl:n=j:=by omega);have HPR:=Lib.hid (hr.congr (g:=fun _=>.int .i64 (-1)) fun v hv=>by rw [if_pos hv]);clear hr hfr;have hbx:=HFR.out.box HBB.out (by omega);have hszr:=HFR.out.size;have hszW:=HSZ.out;have hm0:=tv_start (w:=wr) (B:=M+1) (P:=M+1+1) (K:=M+3) (n:=n) (pl:=fun _=>-1) hbx HPR.out (by omega) (by omega) (fun _=>.slice none 0 0) (fun v=>v) (frmP fun v=>v) (fun _=>[]);have HM0:=Lib.hid hm0;have hblk:∀ b,b<M→(wr.alloc (.cells #[.int .i64 (-1),.int .i64 0] 185)).heap[b]?=w.heap[b]?:=fun b hb=>(Below.heap_alloc _ _ _ (by omega)).trans ((HFR.out.block b (by omega) (by omega)).trans (HBEL.out.block b hb))
      (have HB0:Hid (Below M w (wr.alloc (.cells #[.int .i64 (-1),.int .i64 0] 185))):=Lib.hid ⟨HFR.out.os.trans HBEL.out.os,HFR.out.tape.trans HBEL.out.tape,HFR.out.output.trans HBEL.out.output,by have:=HBEL.out.size;simp;omega,hblk⟩);have HRB:Hid ((wr.alloc (.cells #[.int .i64 (-1),.int .i64 0] 185)).heap[M]?=some (.cells #[.slice none 0 0,.slice none 0 0,.slice none 0 0] 147)):=Lib.hid ((Below.heap_alloc _ _ _ (by omega)).trans (HFR.out.box HBM.out (by omega)));(have HZ0:Hid (M+3≤(wr.alloc (.cells #[.int .i64 (-1),.int .i64 0] 185)).heap.size):=Lib.hid (by simp;omega));clear hbx hm0 hblk hszr hszW;(go_upto_region 11 with fail);generalize wr.alloc (.cells #[.int .i64 (-1),.int .i64 0] 185)=w4 at *;generalize wr.heap.size=Hg at *;go_loopg [6] (n * (n+1)+1) (fun gk s6 wq=>∃ (k:Nat) (bl par:Nat→Nat) (ah:Nat→List Nat) (pl:Nat→Int) (op:List (Int × Nat)) (vb vf va:Value) (V:Nat→Value),gk≤n * (n+1)+1∧TvI nx n k bl par ah pl op gk∧TvM wq (M+1) (M+1+1) (M+3) n k vb vf va s6 V bl (frmP par) ah pl op∧M+3≤wq.heap.size∧wq.heap[M]?=some (.cells #[.slice none 0 0,.slice none 0 0,.slice none 0 0] 147)∧Below M w wq)
      case atStart=>exact ⟨0,_,_,_,_,_,_,_,_,_,Nat.le_refl _,TvI.start nx hn _ _ _,HM0.out,HZ0.out,HRB.out,HB0.out⟩
      case round =>
        obtain ⟨k,bl,par,ah,pl,op,vb,vf,va,V,hgk,hI,hT,hz,hRb,hbl⟩:=hrel;have HI:=Lib.hid hI;have HT:=Lib.hid hT;have HRB:=Lib.hid hRb;have HBL:=Lib.hid hbl;have HZ:=Lib.hid hz;rcases List.eq_nil_or_concat op with rfl | ⟨op,e,rfl⟩
        · have HE:=Lib.hid (hI.all HNX.out hn);obtain ⟨A,c,rfl⟩:=qg hT.ro;obtain ⟨A1,c1,rfl⟩:=qg hT.rb;obtain ⟨A2,c2,rfl⟩:=qg hT.rf;obtain ⟨A3,c3,rfl⟩:=qg hT.ra;rw [show ([]:List (Int × Nat)).length=0 from rfl] at *;have d0:wr.cell? ⟨M+1,0,none⟩=some (.slice A1 k c1):=q7 hT.box 0;have d1:wr.cell? ⟨M+1,1,none⟩=some (.slice A2 k c2):=q7 hT.box 1;have d2:wr.cell? ⟨M+1,2,none⟩=some (.slice A3 k c3):=q7 hT.box 2
          have hoth:∀ y,y≠M→(((wr.setCell ⟨M,0,none⟩ (.slice A1 k c1)).setCell ⟨M,1,none⟩ (.slice A2 k c2)).setCell ⟨M,2,none⟩ (.slice A3 k c3)).heap[y]?=wr.heap[y]?:=fun y hy=>((Below.heap_setCell _ _ _ _ hy).trans (Below.heap_setCell _ _ _ _ hy)).trans (Below.heap_setCell _ _ _ _ hy);have hfin:(((wr.setCell ⟨M,0,none⟩ (.slice A1 k c1)).setCell ⟨M,1,none⟩ (.slice A2 k c2)).setCell ⟨M,2,none⟩ (.slice A3 k c3)).heap[M]?=some (.cells #[(.slice A1 k c1),(.slice A2 k c2),(.slice A3 k c3)] 147):=qF _ (qF _ (qF _ hRb));have hpo:=hT.pool.go (w':=((wr.setCell ⟨M,0,none⟩ (.slice A1 k c1)).setCell ⟨M,1,none⟩ (.slice A2 k c2)).setCell ⟨M,2,none⟩ (.slice A3 k c3)) (fun g hg _=>hoth g (by omega));have hr:TvR (((wr.setCell ⟨M,0,none⟩ (.slice A1 k c1)).setCell ⟨M,1,none⟩ (.slice A2 k c2)).setCell ⟨M,2,none⟩ (.slice A3 k c3)) M k (.slice A1 k c1) (.slice A2 k c2) (.slice A3 k c3) V bl par ah:=by
            have e2:∀ v,v<k→OwnD _ (M+3) (tvU (.slice A1 k c1) (.slice A2 k c2) (.slice A3 k c3) (.slice A 0 c) V (v+4)) (tvT k bl (frmP par) V ah [] (v+4)):=fun v hv=>hpo.own (v+4) (by omega);refine ⟨own_base (hpo.own 0 (by omega)) (by omega),own_base (hpo.own 1 (by omega)) (by omega),own_base (hpo.own 2 (by omega)) (by omega),fun v hv=>own_base (base:=M+3) ?_ (by omega)⟩;have:=e2 v hv;unfold OwnD tvU tvT at this;simpa using this
          have HFIN:=Lib.hid hfin;have HR:=Lib.hid hr;have HBF:=Lib.hid (((hbl.setCell (p:=⟨M,0,none⟩) (Nat.le_refl _) (.slice A1 k c1)).setCell (p:=⟨M,1,none⟩) (Nat.le_refl _) (.slice A2 k c2)).setCell (p:=⟨M,2,none⟩) (Nat.le_refl _) (.slice A3 k c3));have hm0:=q7 hRb 0;have hm1:=q7 hRb 1;have hm2:=q7 hRb 2;(have hf0:wr.frozen? ⟨M,0,none⟩=false:=by unfold World.frozen?;simp [hRb]);(have hf1:wr.frozen? ⟨M,1,none⟩=false:=by unfold World.frozen?;simp [hRb]);have hf2:wr.frozen? ⟨M,2,none⟩=false:=by unfold World.frozen?;simp [hRb]
          clear hI hT hRb hbl hoth hfin hpo hr;(go_wp2_with fail);refine bodyPost_ret (results_cell_row rfl _ _ M 147 #[(.slice A1 k c1),(.slice A2 k c2),(.slice A3 k c3)] (0,0) _ (by rfl) HFIN.out Tryz.underlying147 (by rfl) (by kernel_rfl)) rfl ?_;exact ⟨⟨k,bl,par,ah,pl,_,_,_,V,rfl,HE.out,by rw [← HM.out];exact HR.out⟩,by rw [← HM.out];exact HBF.out⟩
        · rw [List.concat_eq_append] at *;have hkn:=hI.kn;obtain ⟨go,cap,rfl,he1,he2,hcap,hcm,hrun,hpop⟩:=own_popE hT.ro;have hnn:n * (n+1)≤1000 * 1001:=Nat.mul_le_mul hn2 (by omega);have hol:op.length≤2000000:=by
            have h1:=hI.num;simp at h1;omega
          have hen:=(hI.opn e (by simp)).1;have hT1:TvM wr (M+1) (M+1+1) (M+3) n k vb vf va (.slice (some ⟨go,0,none⟩) op.length cap) V bl (frmP par) ah pl op:=hT.openG ⟨rfl,rfl,rfl,Nat.le_refl _,fun _ _ _=>rfl,fun _ h=>.inl h⟩ hpop;have HT1:=Lib.hid hT1;have HPB:=Lib.hid (fun (b:Nat) (hb:b<n) (h0:0≤pl b)=>hI.placed hb h0);clear hI hT hRb hbl hpop hT1 HT;(go_upto_region 14 with fail);obtain ⟨wa,hwa,hsa,hka,hbela,hca,-⟩:=named wr #[.int .i64 e.1,.int .i64 (e.2:Int)] 185;obtain ⟨N,hN⟩:∃ N,N=wr.heap.size:=⟨_,rfl⟩;rw [← hwa,← hN]
          have HA0:=Lib.hid (HT1.out.go hbela);(have ce0:wa.cell? ⟨N,0,none⟩=some (.int .i64 e.1):=by rw [hN];exact hca 0 _ rfl);(have ce1:wa.cell? ⟨N,1,none⟩=some (.int .i64 (e.2:Int)):=by rw [hN];exact hca 1 _ rfl);have hcp:=HA0.out.plr.cell hen;have hfp:=HA0.out.plr.frozen e.2;(have HFN0:Hid (FreeD (k+4) (tvU vb vf va (.slice (some ⟨go,0,none⟩) op.length cap) V) N):=Lib.hid (fun i hi e=>by have:=((HT1.out.pool.own i hi).lt N e).2;omega));have HNWA:Hid (N<wa.heap.size):=Lib.hid (by omega);have HRA:Hid (wa.heap[M]?=some (.cells #[.slice none 0 0,.slice none 0 0,.slice none 0 0] 147)):=Lib.hid ((hbela.block M (by omega)).trans HRB.out);have HZA:Hid (M+3≤wa.heap.size):=Lib.hid (by omega)
          have HBA:Hid (Below M w wa):=Lib.hid (HBL.out.trans (hbela.mono (by omega)));have HNM:Hid (M+3≤N):=Lib.hid (by omega);have HLOC:Hid (LocD w M N e.1 e.2 (k+4) (tvU vb vf va (.slice (some ⟨go,0,none⟩) op.length cap) V) wa.drew):=Lib.hid ⟨ce0,ce1,HFN0.out,HNWA.out,HRA.out,HZA.out,HBA.out.drew,HNM.out⟩;(have he0:(0:Int)≤(e.2:Int):=by omega);(have he1':(e.2:Int)<n:=by omega);clear hwa hsa hka hbela hca he1 he2 hrun hN hz
          by_cases hpl:0≤pl e.2
          · obtain ⟨p,hpk,hpe,-⟩:=HPB.out e.2 hen hpl;obtain ⟨u,hue,-,huk,g',hg',hI'⟩:=HI.out.old hpe;have HI':=Lib.hid hI';have HG':=Lib.hid hg';have HPK:=Lib.hid hpk;have HA:=HA0;have HFN:=HFN0;(have HFEW:Hid ((ah p).length≤2000000):=Lib.hid (by have:=HI.out.few p hpk;omega));rw [hpe] at hcp
            rw [hue] at ce0;(have hplz:¬ ((p:Int)<0):=by omega);have hplz':decide ((p:Int)<0)=false:=decide_eq_false hplz;(have hu0:(0:Int)≤(u:Int):=by omega);clear hpe hue hg' hI' hpl;have hpk:p<k:=HPK.out;have hra:=HA.out.ra;obtain ⟨ga,capa,ux,hva,hux,hca,hfa,hgK,hgs⟩:=own_cellD hra hpk;obtain ⟨rfl,-⟩:=qj _ hux
            have hvp:=HA.out.rV hpk;have HVP:=Lib.hid hvp;have HVA:=Lib.hid hva;have HFA:=Lib.hid hfa;have HGA:=Lib.hid (And.intro hgK hgs);have HFE:=Lib.hid (HFN.out (p+4) (by omega));have hlahp:(ah p).length≤2000000:=HFEW.out;(have hp0:(0:Int)≤p:=by omega);have hp1:((p:Nat):Int)<k:=by omega
            have cbx:wa.cell? ⟨M+1,2,none⟩=some va:=q7 HA.out.box 2;rw [hva] at cbx;have hMw:M+1<wa.heap.size:=(Array.getElem?_eq_some_iff.1 HA.out.box).1;have hkw:M+3≤wa.heap.size:=HZA.out;clear hra hva hux hfa hgK hgs hvp;(go_upto_region 23 with fail);refine qI (L:=13) (S:=fun w'=>w'.cell? ⟨M+1,2,none⟩=some (.slice (some ⟨ga,0,none⟩) k capa)∧w'.cell? ⟨ga,p,none⟩=some (V p)∧w'.cell? ⟨N,0,none⟩=some (.int .i64 (u:Int))) (by kernel_rfl) (by rfl) (by kernel_rfl) (by kernel_rfl) ?_;change wpAnyH _ _ _ _ _ _ _ _ (World.drew _);have hS:∀ w',Below wa.heap.size wa w'→w'.cell? ⟨M+1,2,none⟩=some (.slice (some ⟨ga,0,none⟩) k capa)∧w'.cell? ⟨ga,p,none⟩=some (V p)∧w'.cell? ⟨N,0,none⟩=some (.int .i64 (u:Int)):=fun w' h=>⟨q6 h _ _ cbx,q6 h _ _ hca,q6 h _ _ ce0⟩
            have hS0:=hS wa.drew (Below.refl _ _).drew;clear cbx hca ce0 ce1;refine tk 0 84 hS0 ?_;simp only [Act.put,aS,List.set_cons_zero,List.set_cons_succ];refine tk 1 85 hS0 ?_;simp only [Act.put,aS,List.set_cons_zero,List.set_cons_succ];refine tk 2 86 hS0 ?_;simp only [Act.put,aS,List.set_cons_zero,List.set_cons_succ];refine tk 3 87 hS0 ?_
            simp only [Act.put,aS,List.set_cons_zero,List.set_cons_succ];refine tk 4 88 hS0 ?_;simp only [Act.put,aS,List.set_cons_zero,List.set_cons_succ];refine tk 5 89 hS0 ?_;simp only [Act.put,aS,List.set_cons_zero,List.set_cons_succ];refine tk 6 90 hS0 ?_;simp only [Act.put,aS,List.set_cons_zero,List.set_cons_succ];refine tk 7 91 hS0 ?_;simp only [Act.put,aS,List.set_cons_zero,List.set_cons_succ]
            refine tk 8 92 hS0 ?_;simp only [Act.put,aS,List.set_cons_zero,List.set_cons_succ];refine tk 9 93 hS0 ?_;simp only [Act.put,aS,List.set_cons_zero,List.set_cons_succ];refine oneH (i:=10) (by kernel_rfl) (fun o ho K' hK=>?_);(simp only [List.getElem?_toArray,List.getElem?_cons_zero,List.getElem?_cons_succ,Option.some.injEq] at ho;subst ho);(go_simp);have hb8:Below wa.heap.size wa (wa.alloc (.cells #[.int .i64 (u:Int)] 3)).drew:=((Below.refl _ wa).alloc (Nat.le_refl _) _).drew;refine hK.out _ _ (hS _ hb8) ?_
            clear hK K';refine oneH (i:=11) (by kernel_rfl) (fun o ho K' hK=>?_);(simp only [List.getElem?_toArray,List.getElem?_cons_zero,List.getElem?_cons_succ,Option.some.injEq] at ho;subst ho);refine step_append_lies _ (by rfl) _ _ _ (by rfl) (M+3) 3 i0 (.int .i64 0) 1 8 Tryz.underlying27 HI0.out.1 HI0.out.2.1 HI0.out.2.2.1 HI0.out.2.2.2 rfl (by decide) (V p) (ah p).length _ (by rfl) (HVP.out.alloc _)
              ⟨wa.heap.size,0,none⟩ 1 1 [.int .i64 (u:Int)] (by rfl) (by rfl) (qo _ _ _) (by intro u hu;rw [List.mem_singleton.1 hu];rfl) (by decide) (by unfold maxLen;omega) (by omega) (by simp;omega) (wa.heap.size+1) (by simp) ?_
            intro gc cap' wC hownC hgrowC hlocC hltC;have HGR:Hid (GroD wa wC (V p) (.slice (some ⟨gc,0,none⟩) ((ah p).length+1) cap')):=Lib.hid (groD_drew (qu (w:=wa.drew) hgrowC hlocC));(have HNW:=Lib.hid (HA.out.ahead (u:=u) hpk HVA.out HGR.out (by rw [zs_snoc,List.map_append];simpa using hownC)));have hVg:∀ b,b<wa.heap.size→(V p).ownBlock≠some b→wC.heap[b]?=wa.heap[b]?:=HGR.out.block;(have hnM:(V p).ownBlock≠some (M+1):=fun e=>by have:=(HVP.out.lt (M+1) e).1;omega);have hna:(V p).ownBlock≠some ga:=fun e=>by
              rcases HA.out.pool.ap (p+4) 2 (by omega) (by omega) (by omega) with h | h
              · rw [show tvU _ _ _ _ V (p+4)=V p by simp [tvU]] at h;rw [h] at e;cases e
              · rw [show tvU _ _ _ _ V (p+4)=V p by simp [tvU],e] at h;exact h (by show some ga=Value.ownBlock va;rw [HVA.out];rfl)
            (have hnN:(V p).ownBlock≠some N:=by have:=HFE.out;rwa [show tvU _ _ _ _ V (p+4)=V p by simp [tvU]] at this);have hSC:wC.cell? ⟨M+1,2,none⟩=some (.slice (some ⟨ga,0,none⟩) k capa)∧wC.cell? ⟨ga,p,none⟩=some (V p)∧wC.cell? ⟨N,0,none⟩=some (.int .i64 (u:Int)):=⟨(World.cell?_of_block (a:=⟨M+1,2,none⟩) (hVg _ (by omega) hnM)).trans hS0.1,(World.cell?_of_block (a:=⟨ga,p,none⟩) (hVg _ HGA.out.2 hna)).trans hS0.2.1,(World.cell?_of_block (a:=⟨N,0,none⟩) (hVg _ HNWA.out hnN)).trans hS0.2.2⟩;have xf:wC.frozen? ⟨ga,p,none⟩=false:=(World.frozen?_of_block (a:=⟨ga,p,none⟩) (hVg _ HGA.out.2 hna)).trans HFA.out;have xc:=hSC.2.1;(have HRF:Hid ((wC.setCell ⟨ga,p,none⟩ (.slice (some ⟨gc,0,none⟩) ((ah p).length+1) cap')).heap[M]?=some (.cells #[.slice none 0 0,.slice none 0 0,.slice none 0 0] 147)):=Lib.hid ((Below.heap_setCell _ _ _ _ (by have:=HGA.out.1;show M≠ga;omega)).trans ((hVg M (by omega) (fun e=>by have:=(HVP.out.lt M e).1;omega)).trans HRA.out)));(have HZF:Hid (M+3≤(wC.setCell ⟨ga,p,none⟩ (.slice (some ⟨gc,0,none⟩) ((ah p).length+1) cap')).heap.size):=Lib.hid (by have:=HGR.out.size;simp;omega));(have HBF:Hid (Below M w (wC.setCell ⟨ga,p,none⟩ (.slice (some ⟨gc,0,none⟩) ((ah p).length+1) cap'))):=Lib.hid (((HBA.out:Below M w wa).trans ⟨HGR.out.os,HGR.out.tape,HGR.out.output,HGR.out.size,fun b hb=>hVg b (by omega) (fun e=>by have:=(HVP.out.lt b e).1;omega)⟩).setCell (by have:=HGA.out.1;show M≤ga;omega) _));refine hK.out _ _ hSC ?_;clear hK K' hgrowC hlocC hownC
            simp only [Act.put,aS,List.set_cons_zero,List.set_cons_succ];refine tk 12 96 hSC ?_;simp only [Act.put,aS,List.set_cons_zero,List.set_cons_succ];refine wpAnyH_done (by kernel_rfl) ?_ _;refine lastH (by decide) (fun o ho K' hK=>?_);(simp only [List.getElem?_toArray,List.getElem?_cons_zero,List.getElem?_cons_succ,Option.some.injEq] at ho;subst ho);(go_simp);refine hK.out _ _ ?_;clear hK K' hSC hS0 hS xc xf hVg hnM hna hnN
            (go_wp2_with fail);go_roundg g'
            case measure=>exact HG'.out
            case rel=>exact ⟨k,bl,par,_,pl,op,vb,vf,va,_,by have:=HG'.out;omega,HI'.out,HNW.out,HZF.out,HRF.out,HBF.out⟩
          · have hpm:pl e.2=-1:=by
              rcases HI.out.plc e.2 hen with h | ⟨p,-,h,-⟩
              · exact h
              · omega
            rw [hpm] at hcp;(have hpl2:decide ((-1:Int)<0)=true:=by decide);have HPM:=Lib.hid hpm;(have HCO:=Lib.hid (come_any (M+1) (M+1+1) (M+3) n k vb vf va _ V bl (frmP par) ah pl op e.1 e.2 wa.drew ⟨HA0.out.box,HA0.out.plr,⟨HA0.out.pool.own,HA0.out.pool.ap⟩,HA0.out.lt⟩ (by omega) (by have:=HZA.out;exact this)));clear hpm hpl;(go_upto_region 15 with fail);refine qI (L:=6) (S:=fun w'=>w'.cell? ⟨N,0,none⟩=some (.int .i64 e.1)∧w'.cell? ⟨N,1,none⟩=some (.int .i64 (e.2:Int))) (by kernel_rfl) (by rfl) (by kernel_rfl) (by kernel_rfl) ?_;change wpAnyH _ _ _ _ _ _ _ _ (World.drew _);have hS0:wa.drew.cell? ⟨N,0,none⟩=some (.int .i64 e.1)∧wa.drew.cell? ⟨N,1,none⟩=some (.int .i64 (e.2:Int)):=⟨ce0,ce1⟩
            clear ce0 ce1;refine tk 0 49 hS0 ?_;simp only [Act.put,aS,List.set_cons_zero,List.set_cons_succ];refine tk 1 50 hS0 ?_;simp only [Act.put,aS,List.set_cons_zero,List.set_cons_succ];refine tk 2 51 hS0 ?_;simp only [Act.put,aS,List.set_cons_zero,List.set_cons_succ];refine tk 3 52 hS0 ?_;simp only [Act.put,aS,List.set_cons_zero,List.set_cons_succ]
            refine oneH (i:=4) (by kernel_rfl) (fun o ho K' hK=>?_);(simp only [List.getElem?_toArray,List.getElem?_cons_zero,List.getElem?_cons_succ,Option.some.injEq] at ho;subst ho);(go_simp);refine HCO.out.mono ?_;rintro e' wb ⟨vb',vf',va',rfl,hT',hF'⟩;have hLb:=LocD.step HLOC.out hF' (fun i hi b hb=>(HA0.out.pool.own i hi).lt b hb |>.1);have HLB:=Lib.hid hLb;have HTB:=Lib.hid hT';have hcp:=hT'.plr.cell hen
            have hfp:=hT'.plr.frozen e.2;rw [HPM.out] at hcp;have hSC:wb.cell? ⟨N,0,none⟩=some (.int .i64 e.1)∧wb.cell? ⟨N,1,none⟩=some (.int .i64 (e.2:Int)):=⟨hLb.1,hLb.2.1⟩;refine hK.out _ _ hSC ?_;clear hK K' hT' hF' hLb;(try simp only [Act.put,aS,List.set_cons_zero,List.set_cons_succ]);refine tk 5 54 hSC ?_;simp only [Act.put,aS,List.set_cons_zero,List.set_cons_succ];refine wpAnyH_done (by kernel_rfl) ?_ _
            refine lastH (by decide) (fun o ho K' hK=>?_);(simp only [List.getElem?_toArray,List.getElem?_cons_zero,List.getElem?_cons_succ,Option.some.injEq] at ho;subst ho);(go_simp);refine hK.out _ _ ?_;clear hK K' hSC hS0;have HTD:=Lib.hid (HTB.out.plSet e.2 (k:Int));have HLD:=Lib.hid (LocD.setLow HLB.out e.2 (.int .i64 (k:Int)));clear HA0 HTB HLB HCO hcp hfp;generalize wb.setCell ⟨M+1+1,e.2,none⟩ (.int .i64 (k:Int))=wd at *
            (obtain ⟨bg,og,l,hbo,hl,hcs⟩:=HS.out.at_ (k:=e.2) (by simp;exact hen));simp only [Option.some.injEq,Addr.mk.injEq,and_true] at hbo;obtain ⟨rfl,rfl⟩:=hbo;have hlz:l=zs (nx e.2):=(qj _ hl.out).1;subst hlz;obtain ⟨A,c,hcA0,hslA⟩:=hcs;(have hbd:Below w.heap.size w wd:=by rw [← HM.out];exact HLD.out.2.2.2.2.2.2.1);(have hcA:wd.cell? ⟨G,e.2,none⟩=some (.slice A (nx e.2).length c):=by have:=q6 hbd _ _ hcA0;rw [Nat.mul_one,Nat.zero_add,qc] at this;exact this);have HSLA:=Lib.hid hslA
            have hlnx:=HLEN.out e.2;have ce1:=HLD.out.2.1;clear hslA hl hbd hcA0;go_upto_region 17 with fail
            go_loopw [6,61] (fun s6 s61 wq=>∃ j:Nat,j≤(nx e.2).length∧s61=.int .i64 (j:Int)∧TvM wq (M+1) (M+1+1) (M+3) n (k+1) vb' vf' va' s6 (updF V k (.slice none 0 0)) (updF bl k e.2) (updF (frmP par) k e.1) (updF ah k []) (updF pl e.2 (k:Int)) (op++((nx e.2).take j).map fun t=>((k:Int),t))∧LocD w M N e.1 e.2 (k+1+4) (tvU vb' vf' va' s6 (updF V k (.slice none 0 0))) wq) (fun _ s61 _=>(nx e.2).length - (intOf s61).toNat)
            case atStart=>exact ⟨0,Nat.zero_le _,rfl,by simpa using HTD.out,HLD.out⟩
            case round =>
              obtain ⟨j,hj,rfl,htq,hlq⟩:=hrel;have HTQ:=Lib.hid htq;have HLQ:=Lib.hid hlq
              by_cases hjl:j<(nx e.2).length
              · (have hbw:Below w.heap.size w wr:=by rw [← HM.out];exact hlq.2.2.2.2.2.2.1);(obtain ⟨bt,ot,x,rfl,hx,hxc,-⟩:=(SL.keep (q6 hbw) (RInt.keep (q6 hbw)) HSLA.out).int (k:=j) (by rw [qc];exact hjl));obtain ⟨t,ht,rfl⟩:=zs_at hx.out;(have hj0:(0:Int)≤j:=by omega);(have hj1:(j:Int)<(nx e.2).length:=by omega);have ce1:=hlq.2.1;have hcp:=htq.plr.cell hen;rw [qB] at hcp;have hll:(op++((nx e.2).take j).map fun t=>((k:Int),t)).length≤2001000:=by simp;omega
                have HTK:Hid ((nx e.2).take (j+1)=(nx e.2).take j++[t]):=Lib.hid (qD ht);generalize hop:(op++((nx e.2).take j).map fun t=>((k:Int),t))=op' at *;(have HOE:Hid (op++((nx e.2).take (j+1)).map (fun t=>((k:Int),t))=op'++[((k:Int),t)]):=Lib.hid (by rw [HTK.out,List.map_append,← List.append_assoc,hop];rfl));clear hop;have HOP:=Lib.hid htq.ro;have hzr:=hlq.2.2.2.2.2.1;clear hbw htq hlq hx ht;go_wp2_with (at_builtin;refine wpList_append_lies _ rfl (.tmp 65) (.tmp 73) 186 rfl (M+3) 185 ie (.agg #[.int .i64 0,.int .i64 0]) 2 16 Tryz.underlying186 HE.out.1 HE.out.2.1 HE.out.2.2.1 HE.out.2.2.2 rfl (by decide) u6 _ _ rfl (HOP.out.alloc _) ⟨wr.heap.size,0,none⟩ 1 1 [.int .i64 (k:Int),.int .i64 (t:Int)] rfl rfl ?e1 ?e2 ?e0 ?e3 ?e4 ?e5 (wr.heap.size+1) ?e6 ?_)
                case e1=>exact cell_two_new_ wr _ _ _
                case e2=>intro u hu;simp at hu;rcases hu with rfl | rfl <;> rfl
                case e0=>omega
                case e3=>unfold maxLen;omega
                case e4=>omega
                case e5=>simp;omega
                case e6=>simp
                intro gc cap' wA hownC hgrowC hlocC hltC;have HGR:Hid (GroD wr wA u6 (.slice (some ⟨gc,0,none⟩) (op'.length+1) cap')):=Lib.hid (qu (w:=wr) hgrowC hlocC);(have HTN:=Lib.hid (HTQ.out.openG (op':=op++((nx e.2).take (j+1)).map fun t=>((k:Int),t)) HGR.out (by rw [HOE.out,flatE_snoc];simpa using hownC)));have HLN:=Lib.hid (LocD.step HLQ.out ((FrD.gro (B:=M+1) (m:=k+1+4) (t:=3) (U:=tvU vb' vf' va' u6 (updF V k (.slice none 0 0))) (by omega) HGR.out).congr (U'':=tvU vb' vf' va' (.slice (some ⟨gc,0,none⟩) (op'.length+1) cap') (updF V k (.slice none 0 0))) (tvU_open _ _)) (fun i hi b hb=>(HTQ.out.pool.own i hi).lt b hb |>.1));clear hownC hgrowC hlocC hltC HGR hcp ce1;go_wp2_with fail
                go_roundw
                case rel=>exact ⟨j+1,by omega,by go_num,HTN.out,HLN.out⟩
                case measure=>simp [intOf];omega
              · have hjj:(nx e.2).take j=nx e.2:=List.take_of_length_le (by omega);rw [hjj] at htq;obtain ⟨-,-,g',hg',hI'⟩:=HI.out.new HNX.out HLEN.out HPM.out;have HI':=Lib.hid hI';have HG':=Lib.hid hg';have HA:=Lib.hid htq;have hcp:=htq.plr.cell hen;rw [qB] at hcp;have ce0:=hlq.1
                have ce1:=hlq.2.1;have HFN:=Lib.hid hlq.2.2.1;have HNWA:=Lib.hid hlq.2.2.2.1;have HRA:=Lib.hid hlq.2.2.2.2.1;have HZA:=Lib.hid hlq.2.2.2.2.2.1;have HBA:=Lib.hid hlq.2.2.2.2.2.2.1;have HPK:Hid (k<k+1):=Lib.hid (by omega);(have HFEW:Hid ((updF ah k [] k).length≤2000000):=Lib.hid (by rw [qB];simp));have HEO:=Lib.hid (HI.out.opn e (by simp)).2
                clear htq hlq hjj hg' hI' HTQ HLQ;rcases HEO.out with ⟨hem,hk0,-⟩ | ⟨u,huk,hue,-,-⟩
                · have HFRM:Hid (∀ v,v<k+1→updF (frmP par) k e.1 v=frmP (updF par k e.1.toNat) v):=Lib.hid (fun v hv=>by
                    (have:v=k:=by omega);subst this
                    rw [qB,hem];unfold frmP;rw [if_pos hk0])
                  have HAHC:Hid (∀ v,v<k+1→updF ah k [] v=updF ah k (if e.1<0 then [] else [e.1.toNat]) v):=Lib.hid (fun v _=>by rw [if_pos (by omega)]);rw [hem] at ce0;(go_wp2_with fail);go_roundg g'
                  case measure=>exact HG'.out
                  case rel=>exact ⟨k+1,_,_,_,_,_,vb',vf',va',_,by have:=HG'.out;omega,HI'.out,HA.out.congr HFRM.out HAHC.out,HZA.out,HRA.out,HBA.out⟩
                · have HFRM:Hid (∀ v,v<k+1→updF (frmP par) k e.1 v=frmP (updF par k e.1.toNat) v):=Lib.hid (fun v hv=>by
                    by_cases e1:v=k
                    · subst e1;rw [qB];unfold frmP;rw [qB,if_neg (by omega)];omega
                    · rw [q9 _ _ e1];unfold frmP;rw [q9 _ _ e1])
                  have HAHC:Hid (∀ v,v<k+1→updF (updF ah k []) k (updF ah k [] k++[u]) v=updF ah k (if e.1<0 then [] else [e.1.toNat]) v):=Lib.hid (fun v _=>by
                    by_cases e1:v=k
                    · subst e1;rw [qB,qB,qB,if_neg (by omega)];(have:e.1.toNat=u:=by omega);rw [this];rfl
                    · rw [q9 _ _ e1,q9 _ _ e1,q9 _ _ e1])
                  rw [hue] at ce0;(have hu0:(0:Int)≤(u:Int):=by omega);clear huk hue;have hpk:k<(k+1):=HPK.out;have hra:=HA.out.ra;obtain ⟨ga,capa,ux,hva,hux,hca,hfa,hgK,hgs⟩:=own_cellD hra hpk;obtain ⟨rfl,-⟩:=qj _ hux;have hvp:=HA.out.rV hpk;have HVP:=Lib.hid hvp
                  have HVA:=Lib.hid hva;have HFA:=Lib.hid hfa;have HGA:=Lib.hid (And.intro hgK hgs);have HFE:=Lib.hid (HFN.out (k+4) (by omega));have hlahp:((updF ah k []) k).length≤2000000:=HFEW.out;(have hp0:(0:Int)≤k:=by omega);(have hp1:((k:Nat):Int)<(k+1):=by omega);have cbx:wr.cell? ⟨M+1,2,none⟩=some va':=q7 HA.out.box 2;rw [hva] at cbx
                  have hMw:M+1<wr.heap.size:=(Array.getElem?_eq_some_iff.1 HA.out.box).1;have hkw:M+3≤wr.heap.size:=HZA.out;clear hra hva hux hfa hgK hgs hvp;(go_upto_region 23 with fail);refine qI (L:=13) (S:=fun w'=>w'.cell? ⟨M+1,2,none⟩=some (.slice (some ⟨ga,0,none⟩) (k+1) capa)∧w'.cell? ⟨ga,k,none⟩=some ((updF V k (.slice none 0 0)) k)∧w'.cell? ⟨N,0,none⟩=some (.int .i64 (u:Int))) (by kernel_rfl) (by rfl) (by kernel_rfl) (by kernel_rfl) ?_;change wpAnyH _ _ _ _ _ _ _ _ (World.drew _);have hS:∀ w',Below wr.heap.size wr w'→w'.cell? ⟨M+1,2,none⟩=some (.slice (some ⟨ga,0,none⟩) (k+1) capa)∧w'.cell? ⟨ga,k,none⟩=some ((updF V k (.slice none 0 0)) k)∧w'.cell? ⟨N,0,none⟩=some (.int .i64 (u:Int)):=fun w' h=>⟨q6 h _ _ cbx,q6 h _ _ hca,q6 h _ _ ce0⟩;have hS0:=hS wr.drew (Below.refl _ _).drew;clear cbx hca ce0 ce1
                  refine tk 0 84 hS0 ?_;simp only [Act.put,aS,List.set_cons_zero,List.set_cons_succ];refine tk 1 85 hS0 ?_;simp only [Act.put,aS,List.set_cons_zero,List.set_cons_succ];refine tk 2 86 hS0 ?_;simp only [Act.put,aS,List.set_cons_zero,List.set_cons_succ];refine tk 3 87 hS0 ?_;simp only [Act.put,aS,List.set_cons_zero,List.set_cons_succ];refine tk 4 88 hS0 ?_
                  simp only [Act.put,aS,List.set_cons_zero,List.set_cons_succ];refine tk 5 89 hS0 ?_;simp only [Act.put,aS,List.set_cons_zero,List.set_cons_succ];refine tk 6 90 hS0 ?_;simp only [Act.put,aS,List.set_cons_zero,List.set_cons_succ];refine tk 7 91 hS0 ?_;simp only [Act.put,aS,List.set_cons_zero,List.set_cons_succ];refine tk 8 92 hS0 ?_;simp only [Act.put,aS,List.set_cons_zero,List.set_cons_succ]
                  refine tk 9 93 hS0 ?_;simp only [Act.put,aS,List.set_cons_zero,List.set_cons_succ];refine oneH (i:=10) (by kernel_rfl) (fun o ho K' hK=>?_);(simp only [List.getElem?_toArray,List.getElem?_cons_zero,List.getElem?_cons_succ,Option.some.injEq] at ho;subst ho);(go_simp);have hb8:Below wr.heap.size wr (wr.alloc (.cells #[.int .i64 (u:Int)] 3)).drew:=((Below.refl _ wr).alloc (Nat.le_refl _) _).drew;refine hK.out _ _ (hS _ hb8) ?_;clear hK K';refine oneH (i:=11) (by kernel_rfl) (fun o ho K' hK=>?_)
                  (simp only [List.getElem?_toArray,List.getElem?_cons_zero,List.getElem?_cons_succ,Option.some.injEq] at ho;subst ho);refine step_append_lies _ (by rfl) _ _ _ (by rfl) (M+3) 3 i0 (.int .i64 0) 1 8 Tryz.underlying27 HI0.out.1 HI0.out.2.1 HI0.out.2.2.1 HI0.out.2.2.2 rfl (by decide) ((updF V k (.slice none 0 0)) k) ((updF ah k []) k).length _ (by rfl) (HVP.out.alloc _)
                    ⟨wr.heap.size,0,none⟩ 1 1 [.int .i64 (u:Int)] (by rfl) (by rfl) (qo _ _ _) (by intro u hu;rw [List.mem_singleton.1 hu];rfl) (by decide) (by unfold maxLen;omega) (by omega) (by simp;omega) (wr.heap.size+1) (by simp) ?_
                  intro gc cap' wC hownC hgrowC hlocC hltC;have HGR:Hid (GroD wr wC ((updF V k (.slice none 0 0)) k) (.slice (some ⟨gc,0,none⟩) (((updF ah k []) k).length+1) cap')):=Lib.hid (groD_drew (qu (w:=wr.drew) hgrowC hlocC));(have HNW:=Lib.hid (HA.out.ahead (u:=u) hpk HVA.out HGR.out (by rw [zs_snoc,List.map_append];simpa using hownC)));have hVg:∀ b,b<wr.heap.size→((updF V k (.slice none 0 0)) k).ownBlock≠some b→wC.heap[b]?=wr.heap[b]?:=HGR.out.block;(have hnM:((updF V k (.slice none 0 0)) k).ownBlock≠some (M+1):=fun e=>by have:=(HVP.out.lt (M+1) e).1;omega);have hna:((updF V k (.slice none 0 0)) k).ownBlock≠some ga:=fun e=>by
                    rcases HA.out.pool.ap (k+4) 2 (by omega) (by omega) (by omega) with h | h
                    · rw [show tvU _ _ _ _ (updF V k (.slice none 0 0)) (k+4)=(updF V k (.slice none 0 0)) k by simp [tvU]] at h;rw [h] at e;cases e
                    · rw [show tvU _ _ _ _ (updF V k (.slice none 0 0)) (k+4)=(updF V k (.slice none 0 0)) k by simp [tvU],e] at h;exact h (by show some ga=Value.ownBlock va';rw [HVA.out];rfl)
                  (have hnN:((updF V k (.slice none 0 0)) k).ownBlock≠some N:=by have:=HFE.out;rwa [show tvU _ _ _ _ (updF V k (.slice none 0 0)) (k+4)=(updF V k (.slice none 0 0)) k by simp [tvU]] at this);have hSC:wC.cell? ⟨M+1,2,none⟩=some (.slice (some ⟨ga,0,none⟩) (k+1) capa)∧wC.cell? ⟨ga,k,none⟩=some ((updF V k (.slice none 0 0)) k)∧wC.cell? ⟨N,0,none⟩=some (.int .i64 (u:Int)):=⟨(World.cell?_of_block (a:=⟨M+1,2,none⟩) (hVg _ (by omega) hnM)).trans hS0.1,(World.cell?_of_block (a:=⟨ga,k,none⟩) (hVg _ HGA.out.2 hna)).trans hS0.2.1,(World.cell?_of_block (a:=⟨N,0,none⟩) (hVg _ HNWA.out hnN)).trans hS0.2.2⟩;have xf:wC.frozen? ⟨ga,k,none⟩=false:=(World.frozen?_of_block (a:=⟨ga,k,none⟩) (hVg _ HGA.out.2 hna)).trans HFA.out;have xc:=hSC.2.1;(have HRF:Hid ((wC.setCell ⟨ga,k,none⟩ (.slice (some ⟨gc,0,none⟩) (((updF ah k []) k).length+1) cap')).heap[M]?=some (.cells #[.slice none 0 0,.slice none 0 0,.slice none 0 0] 147)):=Lib.hid ((Below.heap_setCell _ _ _ _ (by have:=HGA.out.1;show M≠ga;omega)).trans ((hVg M (by omega) (fun e=>by have:=(HVP.out.lt M e).1;omega)).trans HRA.out)));(have HZF:Hid (M+3≤(wC.setCell ⟨ga,k,none⟩ (.slice (some ⟨gc,0,none⟩) (((updF ah k []) k).length+1) cap')).heap.size):=Lib.hid (by have:=HGR.out.size;simp;omega));(have HBF:Hid (Below M w (wC.setCell ⟨ga,k,none⟩ (.slice (some ⟨gc,0,none⟩) (((updF ah k []) k).length+1) cap'))):=Lib.hid (((HBA.out:Below M w wr).trans ⟨HGR.out.os,HGR.out.tape,HGR.out.output,HGR.out.size,fun b hb=>hVg b (by omega) (fun e=>by have:=(HVP.out.lt b e).1;omega)⟩).setCell (by have:=HGA.out.1;show M≤ga;omega) _));refine hK.out _ _ hSC ?_;clear hK K' hgrowC hlocC hownC
                  simp only [Act.put,aS,List.set_cons_zero,List.set_cons_succ];refine tk 12 96 hSC ?_;simp only [Act.put,aS,List.set_cons_zero,List.set_cons_succ];refine wpAnyH_done (by kernel_rfl) ?_ _;refine lastH (by decide) (fun o ho K' hK=>?_);(simp only [List.getElem?_toArray,List.getElem?_cons_zero,List.getElem?_cons_succ,Option.some.injEq] at ho;subst ho);(go_simp);refine hK.out _ _ ?_;clear hK K' hSC hS0 hS xc xf hVg hnM hna hnN
                  (go_wp2_with fail);go_roundg g'
                  case measure=>exact HG'.out
                  case rel=>exact ⟨k+1,_,_,_,_,_,vb',vf',va',_,by have:=HG'.out;omega,HI'.out,HNW.out.congr HFRM.out HAHC.out,HZF.out,HRF.out,HBF.out⟩
end Go.Proofs.YtfoggldjjnabcaaGreatDoor
