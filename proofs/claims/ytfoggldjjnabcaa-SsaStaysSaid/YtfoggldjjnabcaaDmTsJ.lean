/- What the program holds of which registers are wanted, in memory. -/
import Derived.Test.YtfoggldjjnabcaaSsMJ
import Derived.Test.YtfoggldjjnabcaaGrNmJ
import Derived.Test.YtfoggldjjnabcaaDmTJ
import Derived.Test.YtfoggldjjnabcaaDmFmJ
import Derived.Test.YtfoggldjjnabcaaDmWJ
import Derived.Test.YtfoggldjjnabcaaGrMJ
namespace Go.Proofs.Ytfoggldjjnabcaa
open Go.ChangeShapes Go.WideShapes Go.RowKit Go.Deep
set_option linter.unusedVariables false
def allP (n R:Nat):List (Nat × Nat):=(List.range n).flatMap fun x=>(List.range R).map fun y=>(x,y)
theorem allP_mem {n R:Nat} {x:Nat × Nat}:x∈allP n R↔x.1<n∧x.2<R:=by
  unfold allP;rw [List.mem_flatMap];constructor
  · rintro ⟨a,ha,hx⟩;obtain ⟨b,hb,rfl⟩:=List.mem_map.1 hx;exact ⟨List.mem_range.1 ha,List.mem_range.1 hb⟩
  · rintro ⟨h1,h2⟩;exact ⟨x.1,List.mem_range.2 h1,List.mem_map.2 ⟨x.2,List.mem_range.2 h2,rfl⟩⟩
theorem allP_len (n R:Nat):(allP n R).length=n * R:=by
  unfold allP
  induction n with
  | zero=>simp
  | succ n ih=>rw [List.range_succ,List.flatMap_append,List.length_append,ih];simp [Nat.succ_mul]
theorem allP_nodup (n R:Nat):(allP n R).Nodup:=by
  unfold allP
  induction n with
  | zero=>simp
  | succ n ih =>
    rw [List.range_succ,List.flatMap_append,List.nodup_append];refine ⟨ih,?_,?_⟩
    · simp only [List.flatMap_cons,List.flatMap_nil,List.append_nil];exact List.Pairwise.map _ (fun a b h e=>h (by injection e)) List.nodup_range
    · intro a ha b hb e;subst e;obtain ⟨x,hx,h1⟩:=List.mem_flatMap.1 ha;obtain ⟨y,hy,h2⟩:=List.mem_flatMap.1 hb;obtain ⟨p,_,rfl⟩:=List.mem_map.1 h1;obtain ⟨q,_,e⟩:=List.mem_map.1 h2;(have e1:y=x:=by injection e);have:=List.mem_range.1 hx;have:=List.mem_singleton.1 hy
      omega
theorem countP_one {α:Type} [DecidableEq α] {p q:α→Bool} {x:α} (hq:∀ y,y≠x→q y=p y) (hp:p x=false) (hx:q x=true):∀ l:List α,l.Nodup→l.countP q=l.countP p+(if x∈l then 1 else 0):=by
  intro l
  induction l with
  | nil=>intro _;simp
  | cons a l ih =>
    intro hn;obtain ⟨h1,h2⟩:=List.nodup_cons.1 hn;rw [List.countP_cons,List.countP_cons,ih h2]
    by_cases e:a=x
    · subst e;(have hm:a∈a::l:=by simp);rw [if_neg h1,if_pos hm,hx,hp];simp
    · rw [hq a e];have hm:(x∈a::l)↔x∈l:=by
        rw [List.mem_cons];exact ⟨fun h=>by rcases h with h | h;exact absurd h.symm e;exact h,.inr⟩
      by_cases e2:x∈l
      · rw [if_pos e2,if_pos (hm.2 e2)];omega
      · rw [if_neg e2,if_neg (fun h=>e2 (hm.1 h))];omega
def cntA (n R:Nat) (M:Nat→Nat→Bool):Nat:=(allP n R).countP fun x=>M x.1 x.2
theorem cntA_le (n R:Nat) (M:Nat→Nat→Bool):cntA n R M≤n * R:=by unfold cntA;rw [← allP_len];exact List.countP_le_length
theorem cntA_set {n R:Nat} {M:Nat→Nat→Bool} {b r:Nat} (hb:b<n) (hr:r<R) (h:M b r=false):cntA n R (setB M b r)=cntA n R M+1:=by
  unfold cntA
  rw [countP_one (x:=(b,r)) (p:=fun x=>M x.1 x.2) (fun y hy=>by
    show setB M b r y.1 y.2=M y.1 y.2;unfold setB
    rw [if_neg (fun k=>hy (Prod.ext k.1 k.2))]) h (setB_here _ _ _) _ (allP_nodup n R),if_pos (allP_mem.2 ⟨hb,hr⟩)]
def FewS (n R:Nat) (s:LvS):Prop:=s.op.length≤cntA n R s.A∧∀ x∈s.op,x.1<n∧x.2<R
theorem FewS.le {n R:Nat} {s:LvS} (h:FewS n R s):s.op.length≤n * R:=Nat.le_trans h.1 (cntA_le _ _ _)
theorem FewS.atB {n R:Nat} {s:LvS} (h:FewS n R s) (ph:Nat→Nat→Bool) {b r:Nat} (hb:b<n) (hr:r<R):FewS n R (atB ph s b r):=by
  unfold Go.Proofs.Ytfoggldjjnabcaa.atB
  by_cases e:(s.A b r || ph b r)=true
  · rw [if_pos e];exact h
  · rw [if_neg e];(have hA:s.A b r=false:=by cases hq:s.A b r;rfl;rw [hq] at e;simp at e);(refine ⟨by rw [List.length_append,cntA_set hb hr hA];have:=h.1;simp;omega,fun x hx=>?_⟩);rcases List.mem_append.1 hx with hx | hx
    · exact h.2 x hx
    · rw [List.mem_singleton.1 hx];exact ⟨hb,hr⟩
theorem FewS.atE {n R:Nat} {s:LvS} (h:FewS n R s) (mk ph:Nat→Nat→Bool) {b r:Nat} (hb:b<n) (hr:r<R):FewS n R (atE mk ph s b r):=by
  unfold Go.Proofs.Ytfoggldjjnabcaa.atE
  split
  · exact h
  · split
    · exact h
    · exact FewS.atB (s:=⟨s.A,setB s.E b r,s.op⟩) h ph hb hr
def msS (n R:Nat) (s:LvS):Nat:=s.op.length+(n * R - cntA n R s.A)
theorem msS_atB {n R:Nat} {s:LvS} (ph:Nat→Nat→Bool) {b r:Nat} (hb:b<n) (hr:r<R):msS n R (atB ph s b r)=msS n R s:=by
  unfold Go.Proofs.Ytfoggldjjnabcaa.atB msS
  by_cases e:(s.A b r || ph b r)=true
  · rw [if_pos e]
  · rw [if_neg e];(have hA:s.A b r=false:=by cases hq:s.A b r;rfl;rw [hq] at e;simp at e);have h1:=cntA_set hb hr hA;have h2:=cntA_le n R (setB s.A b r);rw [List.length_append,h1];rw [h1] at h2;simp;omega
theorem msS_atE {n R:Nat} {s:LvS} (mk ph:Nat→Nat→Bool) {b r:Nat} (hb:b<n) (hr:r<R):msS n R (atE mk ph s b r)=msS n R s:=by
  unfold Go.Proofs.Ytfoggldjjnabcaa.atE
  split
  · rfl
  · split
    · rfl
    · rw [msS_atB (s:=⟨s.A,setB s.E b r,s.op⟩) ph hb hr];rfl
structure BG1 (w:World) (G n R:Nat) (M:Nat→Nat→Bool):Prop where
  row:w.rowIs G 59 n (fun a=>.slice (some ⟨G+1+a,0,none⟩) R R)
  cells:∀ a,a<n→w.rowIs (G+1+a) 4 R (fun r=>.bool (M a r))
theorem BG1.of_blocks {w w':World} {G n R:Nat} {M:Nat→Nat→Bool} (h:BG1 w G n R M) (hb:∀ y,G≤y→y≤G+n→w'.heap[y]?=w.heap[y]?):BG1 w' G n R M :=
  ⟨h.row.of_block (hb G (by omega) (by omega)),fun a ha=>(h.cells a ha).of_block (hb _ (by omega) (by omega))⟩
theorem BG1.congr {w:World} {G n R:Nat} {M M':Nat→Nat→Bool} (h:BG1 w G n R M) (he:∀ a b,a<n→b<R→M a b=M' a b):BG1 w G n R M' :=
  ⟨h.row,fun a ha=>(h.cells a ha).congr fun b hb=>by rw [he a b ha hb]⟩
theorem BG1.set {w:World} {G n R:Nat} {M:Nat→Nat→Bool} (h:BG1 w G n R M) (a r:Nat) (ha:a<n):BG1 (w.setCell ⟨G+1+a,r,none⟩ (.bool true)) G n R (setB M a r):=by
  have hs:∀ y,y≠G+1+a→(w.setCell ⟨G+1+a,r,none⟩ (.bool true)).heap[y]?=w.heap[y]?:=fun y hy=>Below.heap_setCell _ _ _ _ hy;refine ⟨h.row.of_block (hs G (by omega)),fun x hx=>?_⟩
  by_cases e:x=a
  · subst e;exact ((h.cells x hx).set r (.bool true)).congr fun r' _=>by unfold setB;by_cases e2:r'=r <;> simp [e2]
  · exact ((h.cells x hx).of_block (hs _ (by omega))).congr fun r' _=>by unfold setB;rw [if_neg (fun k=>e k.1)]
theorem BG1.at_ {w:World} {G n R:Nat} {M:Nat→Nat→Bool} (h:BG1 w G n R M) {a r:Nat} (ha:a<n) (hr:r<R) :
    w.cell? ⟨G,a,none⟩=some (.slice (some ⟨G+1+a,0,none⟩) R R)∧w.cell? ⟨G+1+a,r,none⟩=some (.bool (M a r))∧w.frozen? ⟨G+1+a,r,none⟩=false :=
  ⟨h.row.cell ha,(h.cells a ha).cell hr,(h.cells a ha).frozen r⟩
def opF (l:List (Nat × Nat)):List Value:=l.flatMap fun x=>[.int .i64 (x.1:Int),.int .i64 (x.2:Int)]
theorem opF_snoc (l:List (Nat × Nat)) (b r:Nat):opF (l++[(b,r)])=opF l++[.int .i64 (b:Int),.int .i64 (r:Int)]:=by unfold opF;rw [List.flatMap_append];simp
theorem opF_len (l:List (Nat × Nat)):(opF l).length=2 * l.length:=by
  unfold opF
  induction l with
  | nil=>rfl
  | cons x l ih=>rw [List.flatMap_cons,List.length_append,ih];simp;omega
structure WsM (Wa:World) (H Ga n R K:Nat) (W:World) (vo:Value) (mk ph:Nat→Nat→Bool) (s:LvS):Prop where
  hz:Wa.heap.size=H
  hk:H+4 * (n+1)<K
  box:W.heap[H+4 * (n+1)]?=some (.cells #[.slice (some ⟨Ga,0,none⟩) n n,.slice (some ⟨H,0,none⟩) n n,.slice (some ⟨H+(n+1),0,none⟩) n n,.slice (some ⟨H+2 * (n+1),0,none⟩) n n,.slice (some ⟨H+3 * (n+1),0,none⟩) n n,vo] 95)
  g1:BG1 W H n R mk
  g2:BG1 W (H+(n+1)) n R ph
  g3:BG1 W (H+2 * (n+1)) n R s.A
  g4:BG1 W (H+3 * (n+1)) n R s.E
  op:W.ownsRow K 125 2 vo s.op.length (opF s.op)
  bel:Below H Wa W
  kw:K≤W.heap.size
structure GroS (lo hi:Nat) (w w':World) (v v':Value):Prop where
  os:w'.os=w.os
  tape:w'.tape=w.tape
  output:w'.output=w.output
  size:w.heap.size≤w'.heap.size
  block:∀ k,k<w.heap.size→¬ (lo≤k∧k≤hi)→v.ownBlock≠some k→w'.heap[k]?=w.heap[k]?
  own:∀ g,v'.ownBlock=some g→v.ownBlock=some g∨w.heap.size≤g
theorem GroS.refl (lo hi:Nat) (w:World) (v:Value):GroS lo hi w w v v:=⟨rfl,rfl,rfl,Nat.le_refl _,fun _ _ _ _=>rfl,fun _ h=>.inl h⟩
theorem GroS.trans {lo hi:Nat} {a b c:World} {u v x:Value} (h:GroS lo hi a b u v) (k:GroS lo hi b c v x):GroS lo hi a c u x :=
  ⟨k.os.trans h.os,k.tape.trans h.tape,k.output.trans h.output,Nat.le_trans h.size k.size,
    fun i hi1 hn hv=>(k.block i (Nat.lt_of_lt_of_le hi1 h.size) hn (fun e=>by rcases h.own i e with h1 | h1;exact hv h1;omega)).trans (h.block i hi1 hn hv),
    fun g hg=>by
      rcases k.own g hg with h1 | h1
      · exact h.own g h1
      · exact .inr (Nat.le_trans h.size h1)⟩
theorem GroS.of_below {lo hi:Nat} {w w':World} (h:Below w.heap.size w w') (v:Value):GroS lo hi w w' v v:=⟨h.os,h.tape,h.output,h.size,fun k hk _ _=>h.block k hk,fun _ h=>.inl h⟩
theorem GroS.mono {lo hi:Nat} {a b c:World} {u v:Value} (h:GroS lo hi a b u v) (k:Below b.heap.size b c):GroS lo hi a c u v:=h.trans (.of_below k v)
theorem WsM.below {Wa:World} {H Ga n R K:Nat} {W W':World} {vo:Value} {mk ph:Nat→Nat→Bool} {s:LvS} (h:WsM Wa H Ga n R K W vo mk ph s) (hb:Below W.heap.size W W'):WsM Wa H Ga n R K W' vo mk ph s:=by
  have hP:H+4 * (n+1)<W.heap.size:=(Array.getElem?_eq_some_iff.1 h.box).1;have hk:∀ y,y≤H+4 * (n+1)→W'.heap[y]?=W.heap[y]?:=fun y hy=>hb.block y (by omega)
  exact ⟨h.hz,h.hk,(hk _ (by omega)).trans h.box,h.g1.of_blocks fun y _ hy=>hk y (by omega),h.g2.of_blocks fun y _ hy=>hk y (by omega),h.g3.of_blocks fun y _ hy=>hk y (by omega),h.g4.of_blocks fun y _ hy=>hk y (by omega),
    qD h.op (fun g hg=>hb.block g (h.op.lt g hg).2),h.bel.trans (hb.mono (by omega)),Nat.le_trans h.kw hb.size⟩
theorem WsM.cells {Wa:World} {H Ga n R K:Nat} {W:World} {vo:Value} {mk ph:Nat→Nat→Bool} {s:LvS} (h:WsM Wa H Ga n R K W vo mk ph s) {P:Nat} (hP:H+4 * (n+1)=P) :
    W.cell? ⟨P,0,none⟩=some (.slice (some ⟨Ga,0,none⟩) n n)∧W.cell? ⟨P,1,none⟩=some (.slice (some ⟨H,0,none⟩) n n)∧W.cell? ⟨P,2,none⟩=some (.slice (some ⟨H+(n+1),0,none⟩) n n)∧W.cell? ⟨P,3,none⟩=some (.slice (some ⟨H+2 * (n+1),0,none⟩) n n) ∧
    W.cell? ⟨P,4,none⟩=some (.slice (some ⟨H+3 * (n+1),0,none⟩) n n)∧W.cell? ⟨P,5,none⟩=some vo∧W.frozen? ⟨P,5,none⟩=false:=by
  have hb:=h.box;rw [hP] at hb;simp [World.cell?,World.frozen?,hb]
theorem WsM.setE {Wa:World} {H Ga n R K:Nat} {W:World} {vo:Value} {mk ph:Nat→Nat→Bool} {s:LvS} (h:WsM Wa H Ga n R K W vo mk ph s) {b:Nat} (r:Nat) (hb:b<n) :
    WsM Wa H Ga n R K (W.setCell ⟨H+3 * (n+1)+1+b,r,none⟩ (.bool true)) vo mk ph ⟨s.A,setB s.E b r,s.op⟩:=by
  have hs:∀ y,y≠H+3 * (n+1)+1+b→(W.setCell ⟨H+3 * (n+1)+1+b,r,none⟩ (.bool true)).heap[y]?=W.heap[y]?:=fun y hy=>Below.heap_setCell _ _ _ _ hy;have:=h.hk
  refine ⟨h.hz,h.hk,(hs _ (by omega)).trans h.box,h.g1.of_blocks fun y _ hy=>hs y (by omega),h.g2.of_blocks fun y _ hy=>hs y (by omega),h.g3.of_blocks fun y _ hy=>hs y (by omega),h.g4.set b r hb,
    qD h.op (fun g hg=>hs g (by have:=(h.op.lt g hg).1;omega)),h.bel.setCell (by show H≤H+3 * (n+1)+1+b;omega) _,by have:=h.kw;simpa using this⟩
theorem WsM.setA {Wa:World} {H Ga n R K:Nat} {W:World} {vo:Value} {mk ph:Nat→Nat→Bool} {s:LvS} (h:WsM Wa H Ga n R K W vo mk ph s) {b:Nat} (r:Nat) (hb:b<n) :
    WsM Wa H Ga n R K (W.setCell ⟨H+2 * (n+1)+1+b,r,none⟩ (.bool true)) vo mk ph ⟨setB s.A b r,s.E,s.op⟩:=by
  have hs:∀ y,y≠H+2 * (n+1)+1+b→(W.setCell ⟨H+2 * (n+1)+1+b,r,none⟩ (.bool true)).heap[y]?=W.heap[y]?:=fun y hy=>Below.heap_setCell _ _ _ _ hy;have:=h.hk
  refine ⟨h.hz,h.hk,(hs _ (by omega)).trans h.box,h.g1.of_blocks fun y _ hy=>hs y (by omega),h.g2.of_blocks fun y _ hy=>hs y (by omega),h.g3.set b r hb,h.g4.of_blocks fun y _ hy=>hs y (by omega),
    qD h.op (fun g hg=>hs g (by have:=(h.op.lt g hg).1;omega)),h.bel.setCell (by show H≤H+2 * (n+1)+1+b;omega) _,by have:=h.kw;simpa using this⟩
theorem GroS.store {lo hi:Nat} (w:World) (v:Value) {p:Addr} (hp:lo≤p.block∧p.block≤hi) (u:Value):GroS lo hi w (w.setCell p u) v v :=
  ⟨rfl,rfl,rfl,by simp,fun k hk hn _=>Below.heap_setCell _ _ _ _ (fun e=>hn (by subst e;exact hp)),fun _ h=>.inl h⟩
theorem WsM.setOp {Wa:World} {H Ga n R K:Nat} {W W7:World} {vo v':Value} {mk ph:Nat→Nat→Bool} {s:LvS} (h:WsM Wa H Ga n R K W vo mk ph s) (hg:GroD W W7 vo v') {l:List (Nat × Nat)}
    (ho:W7.ownsRow K 125 2 v' l.length (opF l)):WsM Wa H Ga n R K (W7.setCell ⟨H+4 * (n+1),5,none⟩ v') v' mk ph ⟨s.A,s.E,l⟩:=by
  have hP:H+4 * (n+1)<W.heap.size:=(Array.getElem?_eq_some_iff.1 h.box).1;have hk:=h.hk;(have hno:∀ y,y≤H+4 * (n+1)→W7.heap[y]?=W.heap[y]?:=fun y hy=>hg.block y (by omega) (fun e=>by have:=(h.op.lt y e).1;omega));have hs:∀ y,y≠H+4 * (n+1)→(W7.setCell ⟨H+4 * (n+1),5,none⟩ v').heap[y]?=W7.heap[y]?:=fun y hy=>Below.heap_setCell _ _ _ _ hy;have hq:∀ y,y<H+4 * (n+1)→(W7.setCell ⟨H+4 * (n+1),5,none⟩ v').heap[y]?=W.heap[y]?:=fun y hy=>(hs y (by omega)).trans (hno y (by omega));have hbx:W7.heap[H+4 * (n+1)]?=_:=(hno _ (Nat.le_refl _)).trans h.box
  refine ⟨h.hz,h.hk,?_,h.g1.of_blocks fun y _ hy=>hq y (by omega),h.g2.of_blocks fun y _ hy=>hq y (by omega),h.g3.of_blocks fun y _ hy=>hq y (by omega),h.g4.of_blocks fun y _ hy=>hq y (by omega),
    qD ho (fun g hg1=>hs g (by have:=(ho.lt g hg1).1;omega)),?_,by have h1:=Nat.le_trans h.kw hg.size;simpa using h1⟩
  · simp [World.setCell,Array.getElem?_modify,hbx]
  · have hf:Below H W W7:=⟨hg.os,hg.tape,hg.output,hg.size,fun y hy=>hno y (by omega)⟩;exact (h.bel.trans hf).setCell (by show H≤H+4 * (n+1);omega) _
theorem GroS.of_groD {lo hi:Nat} {w w':World} {v v':Value} (h:GroD w w' v v'):GroS lo hi w w' v v':=⟨h.os,h.tape,h.output,h.size,fun k hk _ hv=>h.block k hk hv,h.own⟩
set_option linter.unusedSimpArgs false
def clP (bs:List BlkD) (r:Nat):Nat→Bool:=clC (frL bs bs.length) (fun x=>decide (x∈mqL bs bs.length r)) bs.length
def phK (bs:List BlkD) (W:Nat→Nat→Bool) (b j:Nat):List Nat:=(List.range j).filter fun r=>W b r && clP bs r b
theorem phK_succ (bs:List BlkD) (W:Nat→Nat→Bool) (b j:Nat):phK bs W b (j+1)=phK bs W b j++(if (W b j && clP bs j b)=true then [j] else []):=by
  unfold phK;rw [List.range_succ,List.filter_append];cases h:(W b j && clP bs j b) <;> simp [h]
theorem phK_len (bs:List BlkD) (W:Nat→Nat→Bool) (b j:Nat):(phK bs W b j).length≤j:=by
  unfold phK;have:=List.length_filter_le (fun r=>W b r && clP bs r b) (List.range j);simpa using this
theorem frL_in {bs:List BlkD} (a:Nat):∀ x∈frL bs bs.length a,x<bs.length:=fun x hx=>by
  unfold frL at hx;rw [List.mem_filter,List.mem_range] at hx;exact hx.1
def phR (bs:List BlkD) (W:Nat→Nat→Bool) (r j b:Nat):List Int:=zs (if b<j then phK bs W b (r+1) else phK bs W b r)
theorem phR_zero (bs:List BlkD) (W:Nat→Nat→Bool) (r b:Nat):phR bs W r 0 b=zs (phK bs W b r):=by unfold phR;rw [if_neg (by omega)]
theorem phR_all (bs:List BlkD) (W:Nat→Nat→Bool) (r:Nat) {j b:Nat} (h:b<j):phR bs W r j b=zs (phK bs W b (r+1)):=by unfold phR;rw [if_pos h]
theorem phR_no {bs:List BlkD} {W:Nat→Nat→Bool} {r j:Nat} (h:(W j r && clP bs r j)=false) (b:Nat):phR bs W r j b=phR bs W r (j+1) b:=by
  unfold phR
  by_cases e:b=j
  · subst e;rw [if_neg (by omega),if_pos (by omega),phK_succ,h];simp
  · by_cases h1:b<j
    · rw [if_pos h1,if_pos (by omega)]
    · rw [if_neg h1,if_neg (by omega)]
theorem phR_yes {bs:List BlkD} {W:Nat→Nat→Bool} {r j:Nat} (h:(W j r && clP bs r j)=true) (b:Nat):(if b=j then phR bs W r j j++[(r:Int)] else phR bs W r j b)=phR bs W r (j+1) b:=by
  unfold phR
  by_cases e:b=j
  · subst e;rw [if_pos rfl,if_neg (by omega),if_pos (show b<b+1 by omega),phK_succ,if_pos h,zs_snoc]
  · rw [if_neg e]
    by_cases h1:b<j
    · rw [if_pos h1,if_pos (show b<j+1 by omega)]
    · rw [if_neg h1,if_neg (show ¬ b<j+1 by omega)]
theorem phR_len (bs:List BlkD) (W:Nat→Nat→Bool) (r j b:Nat):(phR bs W r j b).length≤r+1:=by
  unfold phR;rw [qP]
  split
  · exact phK_len _ _ _ _
  · have:=phK_len bs W b r;omega
def ToldPo (bs:List BlkD) (R:Nat) (W:Nat→Nat→Bool) (w:World) (e:Ending) (w':World):Prop :=
  (∃ G K V,e=.returned (.slice (some ⟨G,0,none⟩) bs.length bs.length)∧w.heap.size≤G∧Gri w' G K bs.length V (fun b=>zs (phK bs W b R)))∧Below w.heap.size w w'
set_option maxRecDepth 100000 in
set_option maxHeartbeats 16000000 in
theorem phisOfS_any (f:FunD) (v:Value) (w:World) (G3:Nat) (M:Nat→Nat→Bool) (hv:VFun w v f) (hM:BG1 w G3 f.blocks.length f.regs.length M) (hn:f.blocks.length≤500) (hR:f.regs.length≤1000) (hl:∀ b∈f.blocks,b.ins.length≤1000∧∀ x∈b.ins,x.dst<f.regs.length) (h0:0<f.blocks.length) :
    Calls Try.prog 17 #[v,.slice (some ⟨G3,0,none⟩) f.blocks.length f.blocks.length] w (ToldPo f.blocks f.regs.length M w):=by
  have hv0:=hv;obtain ⟨i0,hi,hz0,hz1,hz2⟩:=info_parts Try.info3;have HI:=Lib.hid (And.intro hi (And.intro hz0 (And.intro hz1 hz2)));clear hi hz0 hz1 hz2;obtain ⟨Ar,cr,A,c,rfl,-,-,-,-⟩:=hv;have HV:=Lib.hid hv0;have HM:=Lib.hid hM;have HL:=Lib.hid hl;clear hv0 hM hl
  have hmk:=run_make_row' (P:=Try.prog) 60 28 (.slice none 0 0) 24 Try.underlying60 Try.info28 rfl .i64 .i64 f.blocks.length (by omega) (by omega);(go_enter Try.func17,Try.ntmps17);(go_upto_region 1 with fail);obtain ⟨w1,hw1,hs1,hk1,hbel1,hc1,-⟩:=named w #[.int .i64 f.params,.int .i64 f.result,.slice Ar f.regs.length cr,.slice A f.blocks.length c] 31;rw [← hw1];have c0:w1.cell? ⟨w.heap.size,0,none⟩=some (.int .i64 f.params):=hc1 0 _ rfl;have c1:w1.cell? ⟨w.heap.size,1,none⟩=some (.int .i64 f.result):=hc1 1 _ rfl;have c2:w1.cell? ⟨w.heap.size,2,none⟩=some (.slice Ar f.regs.length cr):=hc1 2 _ rfl;have c3:w1.cell? ⟨w.heap.size,3,none⟩=some (.slice A f.blocks.length c):=hc1 3 _ rfl
  have HB1:=Lib.hid hbel1;have HS1:=Lib.hid hs1;obtain ⟨N,hN⟩:∃ N,N=w.heap.size:=⟨_,rfl⟩;have HNN:=Lib.hid hN;rw [← hN] at c0 c1 c2 c3 ⊢;clear hw1 hs1 hbel1 hc1 hk1 hN;(go_upto_region 2 with fail);clear hmk;obtain ⟨G,hG⟩:∃ G,G=w1.heap.size:=⟨_,rfl⟩
  obtain ⟨w2,hw2⟩:∃ w2,w2=w1.alloc (.cells (madeCells #[.slice none 0 0] f.blocks.length) 28):=⟨_,rfl⟩;(have hb2:Below w1.heap.size w1 w2:=by rw [hw2];exact (Below.refl _ _).alloc (Nat.le_refl _) _);(have HGR:Hid (w2.rowIs G 28 f.blocks.length (fun _=>.slice none 0 0)):=Lib.hid (by rw [hw2,hG];exact World.rowIs_made w1 _ _ _));(have HGS:Hid (G=w1.heap.size∧w2.heap.size=G+1):=Lib.hid ⟨hG,by rw [hw2,hG];simp⟩);have c0:=q6 hb2 _ _ c0;have c1:=q6 hb2 _ _ c1;have c2:=q6 hb2 _ _ c2;have c3:=q6 hb2 _ _ c3;have HB2:Hid (Below w.heap.size w w2):=Lib.hid (HB1.out.trans (hb2.mono HB1.out.size))
  rw [← hw2,← hG];clear hw2 hG hb2;(go_wp2_with fail);refine (frontier_any f _ w2 (VFun.keep (q6 HB2.out) HV.out) (by omega)).mono ?_;rintro e w3 ⟨⟨Gf,Kf,Vf,rfl,hGf,hKf,hgf,-⟩,hb3⟩;have c0:=q6 hb3 _ _ c0;have c1:=q6 hb3 _ _ c1;have c2:=q6 hb3 _ _ c2;have c3:=q6 hb3 _ _ c3
  (have HGR3:=Lib.hid (HGR.out.of_block (hb3.block G (by rw [HGS.out.2];omega))));have HGF:=Lib.hid hgf;(have HFG:Hid (G<Gf∧G<Kf):=Lib.hid (by have:=HGS.out.2;omega));have HB3:Hid (Below w.heap.size w w3):=Lib.hid (HB2.out.trans (hb3.mono HB2.out.size));(have HS3:Hid (G<w3.heap.size):=Lib.hid (by have:=hb3.size;have:=HGS.out.2;omega));clear hb3 hgf hGf hKf;(go_wp2_with fail);refine (makersOf_any f _ w3 (VFun.keep (q6 HB3.out) HV.out) (by omega) hR HL.out).mono ?_;rintro e w5 ⟨⟨Gm,Km,Vm,rfl,hGm,hgm⟩,hb5⟩
  have HGR5:=Lib.hid (HGR3.out.of_block (hb5.block G HS3.out));have HGF5:=Lib.hid (HGF.out.below hb5);have HGM5:=Lib.hid hgm;(have HMG:Hid (G<Gm∧G<Km):=Lib.hid (by have:=HS3.out;have:=hgm.lt;omega));have HB5:Hid (Below w.heap.size w w5):=Lib.hid (HB3.out.trans (hb5.mono HB3.out.size));(have HS5:Hid (G<w5.heap.size∧w.heap.size≤G):=Lib.hid (by have:=hb5.size;have:=HS3.out;have:=HGS.out.1;have:=HB1.out.size;omega));clear hb5 hgm hGm c0 c1 c2 c3;have HG5:Hid (Gri w5 G w5.heap.size f.blocks.length (fun _=>.slice none 0 0) (fun b=>zs (phK f.blocks M b 0))):=Lib.hid ⟨HGR5.out,fun i _=>World.ownsRow_nil _ _ _ _,fun i j _ _ _=>.inl rfl,HS5.out.1⟩;go_wp2_with fail
  go_loopw [20] (fun s20 wq=>∃ (r:Nat) (V:Nat→Value),r≤f.regs.length∧s20=.int .i64 (r:Int)∧Gri wq G w5.heap.size f.blocks.length V (fun b=>zs (phK f.blocks M b r))∧BB w5.heap.size G w5 wq) (fun s20 _=>f.regs.length - (intOf s20).toNat)
  case atStart=>exact ⟨0,_,Nat.zero_le _,rfl,HG5.out,BB.refl _ _ _⟩
  case round =>
    obtain ⟨r,V,hr,rfl,hg,hb⟩:=hrel;have HG:=Lib.hid hg;have HB:=Lib.hid hb;have HBW:Hid (Below w.heap.size w wr):=Lib.hid (HB5.out.trans (hb.below HB5.out.size HS5.out.2))
    by_cases hrR:r<f.regs.length
    · (have hr0:(0:Int)≤r:=by omega);(have hr1:(r:Int)<f.regs.length:=by omega);(have hgm:Gri wr Gm Km f.regs.length Vm (fun r=>zs (mqL f.blocks f.blocks.length r)):=HGM5.out.of_blocks (hb.block Gm HGM5.out.row.lt (by have:=HMG.out;omega)) (fun g h1 h2=>hb.block g h2 (by have:=HMG.out;omega)));(have hgf:Gri wr Gf Kf f.blocks.length Vf (fun a=>zs (frL f.blocks f.blocks.length a)):=HGF5.out.of_blocks (hb.block Gf HGF5.out.row.lt (by have:=HFG.out;omega)) (fun g h1 h2=>hb.block g h2 (by have:=HFG.out;omega)));have hmc:=hgm.row.cell hrR;have hml:(mqL f.blocks f.blocks.length r).length≤1000000:=by have:=mqL_len (bs:=f.blocks) (fun b hb=>(HL.out b hb).1) r f.blocks.length;omega
      have hmr:VS wr 1 RInt (Vm r) (zs (mqL f.blocks f.blocks.length r)):=qV (hgm.own r hrR) (fun y hy=>by
        obtain ⟨x,hx,rfl⟩:=zs_mem hy;have hxn:x<f.blocks.length:=by
          rcases mqL_mem.1 hx with h | h
          · omega
          · exact h.1
        unfold I64;omega)
      have hfr:=hgf.reads (by omega) (fun i _ x hx=>by obtain ⟨y,hy,rfl⟩:=zs_mem hx;have:=frL_in i y hy;unfold I64;omega)
      have hcl:=closed_any f.blocks.length (frL f.blocks f.blocks.length) (mqL f.blocks f.blocks.length r) _ _ _ wr hfr hmr (by omega) hml frL_in (fun x hx=>by
        rcases mqL_mem.1 hx with h | h
        · omega
        · exact h.1)
      have HCL:=Lib.hid hcl
      have HMR:=Lib.hid (BG1.of_blocks HM.out (w':=wr) (fun y h1 h2=>HBW.out.block y (by
        by_cases e:y=G3
        · subst e;exact HM.out.row.lt
        · obtain ⟨q,rfl⟩:∃ q,y=G3+1+q:=⟨y - (G3+1),by omega⟩
          by_cases hq:q<f.blocks.length
          · exact (HM.out.cells q hq).lt
          · have:=(HM.out.cells (f.blocks.length - 1) (by omega)).lt;omega)))
      clear hg hb hgm hgf hmr hfr hcl;(go_wp2_with fail);refine HCL.out.mono ?_;rintro e w7 ⟨⟨Q,rfl,hQ,hq⟩,hb7⟩;have HG7:Hid (Gri w7 G w5.heap.size f.blocks.length V (phR f.blocks M r 0)):=Lib.hid ((HG.out.below hb7).congr fun b _=>by rw [phR_zero]);have HB7:Hid (BB w5.heap.size G w5 w7):=Lib.hid (HB.out.trans (BB.of_below hb7 HB.out.size));have HQ7:Hid (w7.rowIs Q 4 f.blocks.length (fun x=>.bool (clP f.blocks r x))):=Lib.hid hq;(have HQN:Hid (∀ b,b<f.blocks.length→(V b).ownBlock≠some Q):=Lib.hid (fun b hb e=>by have:=((HG.out.own b hb).lt Q e).2;omega));have HQL:Hid (w5.heap.size≤Q):=Lib.hid (by have:=HB.out.size;omega)
      clear hQ hq hb7 HCL hmc;go_wp2_with fail
      go_loopw [29] (fun s29 wq=>∃ (j:Nat) (V:Nat→Value),j≤f.blocks.length∧s29=.int .i64 (j:Int)∧Gri wq G w5.heap.size f.blocks.length V (phR f.blocks M r j)∧BB w5.heap.size G w5 wq∧wq.rowIs Q 4 f.blocks.length (fun x=>.bool (clP f.blocks r x))∧∀ b,b<f.blocks.length→(V b).ownBlock≠some Q) (fun s29 _=>f.blocks.length - (intOf s29).toNat)
      case atStart=>exact ⟨0,V,Nat.zero_le _,rfl,HG7.out,HB7.out,HQ7.out,HQN.out⟩
      case round =>
        obtain ⟨j,V,hj,rfl,hg,hb,hq,hqn⟩:=hrel;have HG:=Lib.hid hg;have HB:=Lib.hid hb;have HQ:=Lib.hid hq;have HQN:=Lib.hid hqn
        by_cases hjl:j<f.blocks.length
        · (have hj0:(0:Int)≤j:=by omega);(have hj1:(j:Int)<f.blocks.length:=by omega);have dq:=hq.cell hjl;have HBW:Hid (Below w.heap.size w wr):=Lib.hid (HB5.out.trans (hb.below HB5.out.size HS5.out.2));have dm1:=(HBW.out.cell (p:=⟨G3,j,none⟩) HM.out.row.lt).trans (HM.out.row.cell hjl);have dm2:=(HBW.out.cell (p:=⟨G3+1+j,r,none⟩) (HM.out.cells j hjl).lt).trans ((HM.out.cells j hjl).cell hrR);have hrow:=hg.row.cell hjl;have howr:=hg.own j hjl;obtain ⟨Av,cv,hVj⟩:=qL howr
          have hlen:=phR_len f.blocks M r j j;obtain ⟨lq,hlq⟩:∃ lq,(phR f.blocks M r j j).length=lq:=⟨_,rfl⟩;have HLQ:=Lib.hid hlq;rw [hlq] at howr hVj hlen;rw [hVj] at hrow howr;have HOW:=Lib.hid howr;have HVJ:=Lib.hid hVj;have hgl:=hg.row.lt;clear hg hb hq hqn howr hlq hVj
          cases hc:clP f.blocks r j
          · rw [hc] at dq;have HNO:Hid ((M j r && clP f.blocks r j)=false):=Lib.hid (by rw [hc,Bool.and_false]);clear hc;go_wp2_with fail
            go_roundw
            case rel=>exact ⟨j+1,V,by omega,by go_num,HG.out.congr fun b _=>phR_no HNO.out b,HB.out,HQ.out,HQN.out⟩
            case measure=>simp [intOf];omega
          · rw [hc] at dq;cases hm:M j r
            · rw [hm] at dm2;have HNO:Hid ((M j r && clP f.blocks r j)=false):=Lib.hid (by rw [hm,Bool.false_and]);clear hc hm;go_wp2_with fail
              go_roundw
              case rel=>exact ⟨j+1,V,by omega,by go_num,HG.out.congr fun b _=>phR_no HNO.out b,HB.out,HQ.out,HQN.out⟩
              case measure=>simp [intOf];omega
            · rw [hm] at dm2;(have HYES:Hid ((M j r && clP f.blocks r j)=true):=Lib.hid (by rw [hm,hc];rfl));clear hc hm;go_wp2_with (at_builtin;refine wpList_append_lies _ rfl (.tmp 49) (.tmp 51) 28 rfl w5.heap.size 3 i0 (.int .i64 0) 1 8 Try.underlying28 HI.out.1 HI.out.2.1 HI.out.2.2.1 HI.out.2.2.2 rfl (by decide) _ _ _ rfl (HOW.out.alloc _) ⟨wr.heap.size,0,none⟩ 1 1 [.int .i64 (r:Int)] rfl rfl ?c1 ?c2 (by decide) ?c3 ?c4 ?c5 (wr.heap.size+1) ?c6 ?_)
              case c1=>exact qR wr _ _ rfl
              case c2=>exact ints_oneCell .i64 [(r:Int)]
              case c3=>unfold maxLen;omega
              case c4=>omega
              case c5=>have:=HB.out.size;simp;omega
              case c6=>simp
              intro g cap w8 hown8 hgrow8 hloc8 hlt8;(have hown8':w8.ownsRow w5.heap.size 3 1 (.slice (some ⟨g,0,none⟩) ((phR f.blocks M r j j).length+1) cap) ((phR f.blocks M r j j).length+1) ((phR f.blocks M r j j).map (Value.int .i64)++[.int .i64 (r:Int)]):=by rw [HLQ.out];exact hown8);(have hgp:=(Gri.push (HG.out.alloc _) hjl hown8' (by rw [HVJ.out];exact hgrow8) (by rw [HVJ.out];simpa using hloc8)).congr (L':=phR f.blocks M r (j+1)) (fun b _=>phR_yes HYES.out b));rw [HLQ.out] at hgp;have hown_ne:∀ k,(Value.slice Av lq cv).ownBlock=some k→w5.heap.size≤k:=fun k hk=>(HOW.out.lt k hk).1;(have hG8:w8.heap[G]?=wr.heap[G]?:=(hgrow8.block _ (by simp;omega) (fun e=>by have:=hown_ne G e.symm;have:=HS5.out.1;omega)).trans (Below.heap_alloc _ _ _ hgl));have hrow8:=(World.cell?_of_block (a:=⟨G,j,none⟩) hG8).trans hrow;have hfr8:=(World.frozen?_of_block (a:=⟨G,j,none⟩) hG8).trans (HG.out.row.frozen j);have hQl:=HQ.out.lt
              (have hQ8:w8.heap[Q]?=wr.heap[Q]?:=(hgrow8.block _ (by simp;omega) (fun e=>HQN.out j hjl (by rw [HVJ.out];exact e.symm))).trans (Below.heap_alloc _ _ _ hQl));(have HB8:Hid (BB w5.heap.size G w5 w8):=Lib.hid ((HB.out.alloc HB.out.size _).grown hgrow8 (by have:=HB.out.size;simp;omega) (fun k hk=>.inr (hown_ne k hk))));have HQ8:Hid ((w8.setCell ⟨G,j,none⟩ (.slice (some ⟨g,0,none⟩) (lq+1) cap)).rowIs Q 4 f.blocks.length (fun x=>.bool (clP f.blocks r x))):=Lib.hid (HQ.out.of_block ((Below.heap_setCell _ _ _ _ (by show Q≠G;have:=HQL.out;have:=HS5.out.1;omega)).trans hQ8))
              have HGQ:Hid (g≠Q):=Lib.hid (fun e=>by
                subst e;rcases hloc8 with e | e
                · exact HQN.out j hjl (by rw [HVJ.out];exact e)
                · first | omega | (simp at e;omega))
              have HGP:=Lib.hid hgp;clear hgp hown8' hown8 hgrow8 hloc8 hlt8 hG8 hQ8 hown_ne hrow;go_wp2_with fail
              go_roundw
              case rel =>
                refine ⟨j+1,_,by omega,by go_num,HGP.out,HB8.out.setCell (.inl rfl) _,HQ8.out,fun b hb=>?_⟩
                by_cases e:b=j
                · intro e2;have e3:(if b=j then Value.slice (some ⟨g,0,none⟩) (lq+1) cap else V b).ownBlock=some Q:=e2;rw [if_pos e] at e3;exact HGQ.out (Option.some.inj e3)
                · intro e2;have e3:(if b=j then Value.slice (some ⟨g,0,none⟩) (lq+1) cap else V b).ownBlock=some Q:=e2;rw [if_neg e] at e3;exact HQN.out b hb e3
              case measure=>simp [intOf];omega
        · have HGN:=Lib.hid (hg.congr (L':=fun b=>zs (phK f.blocks M b (r+1))) (fun b hb=>phR_all f.blocks M r (by omega)));clear hg hb hq hqn;go_wp2_with fail
          go_roundw
          case rel=>exact ⟨r+1,V,by omega,by go_num,HGN.out,HB.out⟩
          case measure=>simp [intOf];omega
    · (have hrr:r=f.regs.length:=by omega);subst hrr;clear hg hb;(go_wp2_with fail);(go_ret);exact ⟨⟨G,w5.heap.size,V,rfl,HS5.out.2,HG.out⟩,HBW.out⟩
end Go.Proofs.Ytfoggldjjnabcaa

namespace Go.Proofs.Ytfoggldjjnabcaa
open Go.RowKit
set_option linter.unusedVariables false
structure RdS where
  i:Nat→Bool
  e:Nat→Bool
section
variable (nx:Nat→List Nat) (al:Nat→Nat→Bool) (us mk ph:Nat→Bool) (n:Nat)
def inF (b:Nat) (x:Bool):Bool:=!ph b && (us b || (x && !mk b))
def stE (s:RdS) (b:Nat):Bool:=s.e b || (nx b).any fun t=>al b t || s.i t
def stB (s:RdS) (b:Nat):RdS:=⟨fun x=>if x=b then inF us mk ph b (stE nx al s b) else s.i x,fun x=>if x=b then stE nx al s b else s.e x⟩
end
variable {nx:Nat→List Nat} {al:Nat→Nat→Bool} {us mk ph:Nat→Bool} {n:Nat}
theorem inF_mono {b:Nat} {x y:Bool} (h:x=true→y=true) (hx:inF us mk ph b x=true):inF us mk ph b y=true:=by
  unfold inF at hx ⊢;cases x <;> cases y <;> simp_all
def ConS (us mk ph:Nat→Bool) (s:RdS):Prop:=∀ b,s.i b=true→inF us mk ph b (s.e b)=true
theorem stE_mono {s:RdS} {b:Nat} (h:s.e b=true):stE nx al s b=true:=by unfold stE;rw [h];rfl
theorem ConS.step {s:RdS} (h:ConS us mk ph s) (b:Nat):ConS us mk ph (stB nx al us mk ph s b)∧(∀ x,s.i x=true→(stB nx al us mk ph s b).i x=true)∧∀ x,s.e x=true→(stB nx al us mk ph s b).e x=true:=by
  refine ⟨fun x hx=>?_,fun x hx=>?_,fun x hx=>?_⟩
  · unfold stB at hx ⊢
    by_cases e:x=b
    · subst e;simpa using hx
    · simp only [if_neg e] at hx ⊢;exact h x hx
  · unfold stB
    by_cases e:x=b
    · subst e;simp only [if_true];exact inF_mono (fun k=>stE_mono k) (h x hx)
    · simp only [if_neg e];exact hx
  · unfold stB
    by_cases e:x=b
    · subst e;simp only [if_true];exact stE_mono hx
    · simp only [if_neg e];exact hx
end Go.Proofs.Ytfoggldjjnabcaa

namespace Go.Proofs.Ytfoggldjjnabcaa
open Go.RowKit
set_option linter.unusedVariables false
theorem aheadK_iff (bs:List BlkD):∀ (i k:Nat) (block:Int),((i+k:Nat):Int)∈z7 bs i block↔∃ x,bs[k]?=some x∧block∈x.term.to:=by
  induction bs with
  | nil=>intro i k block;simp [z7]
  | cons b r ih =>
    intro i k block;simp only [z7,List.mem_append];cases k with
    | zero =>
      have hno:¬ ((i+0:Nat):Int)∈z7 r (i+1) block:=fun h=>by
        have:=qu r (i+1) block _ h;omega
      constructor
      · rintro (h | h)
        · refine ⟨b,rfl,?_⟩
          split at h
          · rename_i hh;unfold hasTo at hh;obtain ⟨y,hy,he⟩:=List.any_eq_true.1 hh;rw [beq_iff_eq] at he;rw [← he];exact hy
          · cases h
        · exact absurd h hno
      · rintro ⟨x,hx,hm⟩;cases hx;refine .inl ?_;rw [if_pos (show hasTo block b.term.to=true from List.any_eq_true.2 ⟨block,hm,by simp⟩)];simp
    | succ k =>
      have h1:=ih (i+1) k block;(have e:i+(k+1)=i+1+k:=by omega);rw [e];constructor
      · rintro (h | h)
        · split at h
          · rw [List.mem_singleton] at h;omega
          · cases h
        · obtain ⟨x,hx,hm⟩:=h1.1 h;exact ⟨x,hx,hm⟩
      · rintro ⟨x,hx,hm⟩;exact .inr (h1.2 ⟨x,hx,hm⟩)
theorem aheadL_iff {bs:List BlkD} {b:Nat} {t:Nat}:(b:Int)∈qF bs t↔∃ x,bs[b]?=some x∧(t:Int)∈x.term.to:=by
  have:=aheadK_iff bs 0 b (t:Int);rw [Nat.zero_add] at this;exact this
theorem nxF_iff {bs:List BlkD} {b t:Nat} (ht:t<bs.length):t∈nxF bs b↔(b:Int)∈qF bs t:=by
  rw [aheadL_iff];constructor
  · intro h;cases hb:bs[b]? with
    | none=>unfold nxF at h;rw [hb] at h;cases h
    | some x=>exact ⟨x,rfl,((nxF_mem hb).1 h).2⟩
  · rintro ⟨x,hx,hm⟩;exact (nxF_mem hx).2 ⟨ht,hm⟩
theorem len_at {l:List Int} {n i:Nat} (h:l.length=n) (hi:i<n):l.getD i 0∈l:=by
  rw [List.getD_eq_getElem?_getD,List.getElem?_eq_getElem (by omega)];exact List.getElem_mem (by omega)
def newA (r:Nat→Bool) (l:List Int):List Int:=l.filterMap fun a=>if r a.toNat=true then some ((cnt r a.toNat:Nat):Int) else none
theorem newA_append (r:Nat→Bool) (a b:List Int):newA r (a++b)=newA r a++newA r b:=List.filterMap_append
theorem newA_cons (r:Nat→Bool) (a:Int) (l:List Int):newA r (a::l)=(if r a.toNat=true then [((cnt r a.toNat:Nat):Int)] else [])++newA r l:=by
  unfold newA;rw [List.filterMap_cons];split <;> rename_i h <;> split at h <;> simp_all
theorem cnt_inj {r:Nat→Bool} {a b:Nat} (ha:r a=true) (hb:r b=true) (h:cnt r a=cnt r b):a=b:=by
  rcases Nat.lt_trichotomy a b with hl | hl | hl
  · have:=cnt_lt hl ha;omega
  · exact hl
  · have:=cnt_lt hl hb;omega
theorem keepA_lenN (r:Nat→Bool):∀ (rs xs:List Int),rs.length=xs.length→(keepA r rs xs).length=(newA r rs).length
  | [],[],_=>rfl
  | [],_::_,h=>by simp at h
  | _::_,[],h=>by simp at h
  | a::rs,x::xs,h=>by
    rw [newA_cons];simp only [keepA,List.length_append];rw [keepA_lenN r rs xs (by simpa using h)]
    split <;> rfl
theorem keepA_sub {r:Nat→Bool}:∀ {rs xs:List Int} {y:Int},y∈keepA r rs xs→y∈xs
  | [],_,_,h=>by simp [keepA] at h
  | _::_,[],_,h=>by simp [keepA] at h
  | a::rs,x::xs,y,h=>by
    simp only [keepA,List.mem_append] at h;rcases h with h | h
    · split at h
      · rw [List.mem_singleton.1 h];exact List.mem_cons_self ..
      · cases h
    · exact List.mem_cons_of_mem _ (keepA_sub h)
theorem hasTo_iff {x:Int} {l:List Int}:hasTo x l=true↔x∈l:=by unfold hasTo;rw [List.any_eq_true];simp
theorem toT_eq {bs:List BlkD} {k i:Nat} {b:BlkD} (hn:bs.length≠0) (hb:bs[k]?=some b) (hk:qE bs k=true) (hi:qE bs i=true) {t:Int} (ht:t∈b.term.to):toT (qE bs) bs.length t=((cnt (qE bs) i:Nat):Int)↔t=(i:Int):=by
  have hil:=reachF_lt hi;unfold toT
  split
  · rename_i hr;(have hrt:qE bs t.toNat=true:=(qd hn).2 (.step ((qd hn).1 hk) ((nxF_mem hb).2 ⟨by omega,by rw [show ((t.toNat:Nat):Int)=t by omega];exact ht⟩)));rw [numB_cnt hrt];constructor
    · intro e;have:=cnt_inj hrt hi (by omega);omega
    · intro e;rw [e,Int.toNat_natCast]
  · rename_i hr;have:=cnt_le (qE bs) i;constructor
    · intro e;omega
    · intro e;omega
theorem ahead_new {bs:List BlkD} (hn:bs.length≠0) {i:Nat} (hi:qE bs i=true):∀ k,k≤bs.length→qF (blksK bs (qE bs) k) ((cnt (qE bs) i:Nat):Int)=newA (qE bs) (qF (bs.take k) (i:Int)):=by
  intro k
  induction k with
  | zero=>intro _;rw [blksK_zero,List.take_zero];rfl
  | succ k ih =>
    intro hk;have hb:bs[k]?=some bs[k]:=List.getElem?_eq_getElem (by omega);have hl:=(blksK_facts (qE bs) k (by omega:k≤bs.length)).1;rw [blksK_succ hb,aheadL_step _ hb,newA_append,← ih (by omega)]
    by_cases hr:qE bs k=true
    · rw [if_pos hr];show z7 (_++[_]) 0 _=_;rw [aheadK_snoc,hl,Nat.zero_add];show qF (blksK bs (qE bs) k) _++_=_;(congr 1);have he:hasTo ((cnt (qE bs) i:Nat):Int) (blkT bs (qE bs) k bs[k]).term.to=hasTo (i:Int) bs[k].term.to:=by
        rw [Bool.eq_iff_iff,hasTo_iff,hasTo_iff];show _∈bs[k].term.to.map _↔_;rw [List.mem_map];constructor
        · rintro ⟨t,ht,e⟩;rw [← (toT_eq hn hb hr hi ht).1 e];exact ht
        · intro h;exact ⟨_,h,(toT_eq hn hb hr hi h).2 rfl⟩
      rw [he]
      split
      · rw [newA_cons,Int.toNat_natCast,if_pos hr];rfl
      · rfl
    · rw [if_neg hr,List.append_nil]
      split
      · rw [newA_cons,Int.toNat_natCast,if_neg hr];simp [newA]
      · simp [newA]
theorem aheadT {bs:List BlkD} (hn:bs.length≠0) {i:Nat} (hi:qE bs i=true):qF (blksT bs) ((cnt (qE bs) i:Nat):Int)=newA (qE bs) (qF bs (i:Int)):=by
  have:=ahead_new hn hi bs.length (Nat.le_refl _)
  rwa [List.take_length] at this
theorem blkT_at {bs:List BlkD} {i:Nat} {b:BlkD} (hb:bs[i]?=some b) (hi:qE bs i=true):(blksT bs)[cnt (qE bs) i]?=some (blkT bs (qE bs) i b) :=
  (blksK_facts (qE bs) bs.length (Nat.le_refl _)).2.1 i b (List.getElem?_eq_some_iff.1 hb).1 hi hb
theorem items_sum {bs:List BlkD} (r:Nat→Bool):∀ k,k≤bs.length→qj (blksK bs r k)≤qj (bs.take k):=by
  intro k
  induction k with
  | zero=>intro _;rw [blksK_zero,List.take_zero];exact Nat.le_refl _
  | succ k ih =>
    intro hk;have hb:bs[k]?=some bs[k]:=List.getElem?_eq_getElem (by omega);rw [blksK_succ hb,itemsK_step hb];have h:=ih (by omega);(have e:∀ a b:List BlkD,qj (a++b)=qj a+qj b:=fun a b=>by unfold qj;rw [List.map_append,List.sum_append]);rw [e]
    split
    · (have:qj [blkT bs r k bs[k]]=bs[k].phis.length+bs[k].ins.length:=by unfold qj blkT;simp);omega
    · have:qj ([]:List BlkD)=0:=rfl;omega
theorem meetK_of {bs:List BlkD}:∀ (l:List BlkD) (i:Nat),(∀ k b,l[k]?=some b→∀ p∈b.phis,p.args.length=(qF bs ((i+k:Nat):Int)).length)→meetK bs l i=true
  | [],_,_=>rfl
  | b::l,i,h=>by
    simp only [meetK,Bool.and_eq_true];refine ⟨List.all_eq_true.2 fun p hp=>decide_eq_true (h 0 b rfl p hp),meetK_of l (i+1) fun k c hk p hp=>?_⟩;have:=h (k+1) c hk p hp
    rwa [show i+(k+1)=i+1+k by omega] at this
theorem blkT_all {bs:List BlkD} {c:BlkD} {j:Nat} (h:(blksT bs)[j]?=some c):∃ i b,bs[i]?=some b∧qE bs i=true∧j=cnt (qE bs) i∧c=blkT bs (qE bs) i b:=by
  obtain ⟨i,hi,hr,rfl⟩:=(blksK_facts (qE bs) bs.length (Nat.le_refl _)).2.2 j (List.getElem?_eq_some_iff.1 h).1;have hb:bs[i]?=some bs[i]:=List.getElem?_eq_getElem hi;exact ⟨i,_,hb,hr,rfl,Option.some.inj (h.symm.trans (blkT_at hb hr))⟩
theorem funE_trim {m:List FunD} {f:FunD} (h:funE m f=0):funE m (trimF f)=0:=by
  have hF:=fun_ok h;(have hn0:f.blocks.length≠0:=by have:=hF.nb.1;omega);obtain ⟨ho,hb⟩:=funE_zero.1 h;obtain ⟨h1,h2,h3,h4⟩:=outer_four ho;have hlen:=blksT_few f.blocks;have h0:qE f.blocks 0=true:=(qd hn0).2 .refl;have hc1:1≤(blksT f.blocks).length:=by
    have:=(List.getElem?_eq_some_iff.1 (blkT_at (List.getElem?_eq_getElem (by omega):f.blocks[0]?=some f.blocks[0]) h0)).1;omega
  rw [funE_zero];constructor
  · unfold outerE;have hw1:withinB (trimF f)=true:=by
      unfold withinB at h1 ⊢;have h1:=of_decide_eq_true h1;have h5:=items_sum (bs:=f.blocks) (qE f.blocks) f.blocks.length (Nat.le_refl _);rw [List.take_length] at h5;(refine decide_eq_true ⟨hc1,by show (blksT f.blocks).length≤64;omega,h1.2.2.1,?_⟩);show (blksT f.blocks).length+qj (blksT f.blocks)≤256;have:qj (blksT f.blocks)≤qj f.blocks:=h5;omega
    have hw3:endsWellB (trimF f)=true:=by
      unfold endsWellB at h3 ⊢;refine List.all_eq_true.2 fun c hc=>?_;obtain ⟨j,hj⟩:=List.getElem?_of_mem hc;obtain ⟨i,b,hbi,hr,rfl,rfl⟩:=blkT_all hj;have hs:=List.all_eq_true.1 h3 b (List.mem_of_getElem? hbi);unfold shapeB at hs ⊢;rw [Bool.and_eq_true] at hs ⊢;obtain ⟨hs1,hs2⟩:=hs;have hall:∀ t∈b.term.to,∃ q:Nat,t=q∧0<q∧qE f.blocks q=true∧toT (qE f.blocks) f.blocks.length t=((cnt (qE f.blocks) q:Nat):Int):=fun t ht=>by
        have:=of_decide_eq_true (List.all_eq_true.1 hs2 t ht);(have hrt:qE f.blocks t.toNat=true:=(qd hn0).2 (.step ((qd hn0).1 hr) ((nxF_mem hbi).2 ⟨by omega,by rw [show ((t.toNat:Nat):Int)=t by omega];exact ht⟩)));exact ⟨t.toNat,by omega,by omega,hrt,(toT_eq hn0 hbi hr hrt ht).2 (by omega)⟩
      constructor
      · unfold tosB at hs1 ⊢;show (if b.term.kind=1 then decide ((b.term.to.map _).length=1) else if b.term.kind=2 then decide ((b.term.to.map _).length=2) && decide ((b.term.to.map _).getD 0 0≠(b.term.to.map _).getD 1 0) else if b.term.kind=3 then decide ((b.term.to.map _).length=0) else false)=true;rw [List.length_map]
        split at hs1
        · rename_i k;rw [if_pos k];exact hs1
        · rename_i k;rw [if_neg k]
          split at hs1
          · rename_i k2;rw [if_pos k2];rw [Bool.and_eq_true] at hs1 ⊢;refine ⟨hs1.1,decide_eq_true ?_⟩;have hl:=of_decide_eq_true hs1.1;have hne:=of_decide_eq_true hs1.2;have hm:∀ i,i<2→(b.term.to.map (toT (qE f.blocks) f.blocks.length)).getD i 0=toT (qE f.blocks) f.blocks.length (b.term.to.getD i 0):=fun i hi=>by
              rw [List.getD_eq_getElem?_getD,List.getD_eq_getElem?_getD,List.getElem?_map,List.getElem?_eq_getElem (by omega)];rfl
            rw [hm 0 (by omega),hm 1 (by omega)];obtain ⟨q1,a1,a2,a3,a4⟩:=hall _ (len_at hl (by omega:0<2));obtain ⟨q2,b1,b2,b3,b4⟩:=hall _ (len_at hl (by omega:1<2));rw [a4,b4];intro e;have:=cnt_inj a3 b3 (by omega);omega
          · rename_i k2;rw [if_neg k2];exact hs1
      · refine List.all_eq_true.2 fun y hy=>?_;obtain ⟨t,ht,rfl⟩:=List.mem_map.1 hy;obtain ⟨q,rfl,hq0,hrq,e⟩:=hall t ht;rw [e];have hp:=cnt_lt hq0 h0;have hq:=cnt_lt (reachF_lt hrq) hrq;rw [cnt_zero] at hp;have hlT:=blksT_len f.blocks;exact decide_eq_true ⟨by omega,by omega,by show _<((blksT f.blocks).length:Int);omega⟩
    have hw4:meetB (trimF f)=true:=by
      refine meetK_of _ _ fun j c hj p hp=>?_;obtain ⟨i,b,hbi,hr,rfl,rfl⟩:=blkT_all (bs:=f.blocks) hj;obtain ⟨p0,hp0,rfl⟩:=List.mem_map.1 hp;rw [Nat.zero_add];show (argsT (qE f.blocks) (qF f.blocks (i:Int)) p0.args).length=(qF (blksT f.blocks) _).length;have hl:=(hF.phis i b hbi p0 hp0).1;unfold argsT;rw [if_pos hl,aheadT hn0 hr];exact keepA_lenN _ _ _ hl.symm
    have hw2:typedB (trimF f)=true:=h2;rw [if_pos hw1,if_pos hw2,hw3,hw4];rfl
  · intro c hc;obtain ⟨j,hj⟩:=List.getElem?_of_mem hc;obtain ⟨i,b,hbi,hr,rfl,rfl⟩:=blkT_all (bs:=f.blocks) hj;have hz:=hb b (List.mem_of_getElem? hbi);rw [blockE_zero] at hz ⊢;obtain ⟨z1,z2,z3⟩:=hz;refine ⟨fun p hp=>?_,z2,z3⟩;obtain ⟨p0,hp0,rfl⟩:=List.mem_map.1 hp;have hz:=z1 p0 hp0
    have hl:=(hF.phis i b hbi p0 hp0).1;unfold phiE at hz ⊢;obtain ⟨k1,hz⟩:=qY (by decide) hz;obtain ⟨k2,-⟩:=qY (by decide) hz;rw [Bool.and_eq_true] at k1;have hsub:∀ y∈(phiT (qE f.blocks) (qF f.blocks (i:Int)) p0).args,y∈p0.args:=fun y hy=>by
      have hy:y∈argsT (qE f.blocks) (qF f.blocks (i:Int)) p0.args:=hy;unfold argsT at hy;rw [if_pos hl] at hy;exact keepA_sub hy
    have j1:areAtB (phiT (qE f.blocks) (qF f.blocks (i:Int)) p0).args ((trimF f).regs.length:Int)=true:=List.all_eq_true.2 fun y hy=>List.all_eq_true.1 k1.2 y (hsub y hy);(rw [if_pos (by rw [Bool.and_eq_true];exact ⟨k1.1,j1⟩)]);exact if_pos (List.all_eq_true.2 fun y hy=>List.all_eq_true.1 k2 y (hsub y hy))
end Go.Proofs.Ytfoggldjjnabcaa

namespace Go.Proofs.Ytfoggldjjnabcaa
set_option linter.unusedVariables false
variable {bs:List BlkD}
def tosOf (bs:List BlkD) (c:Nat):List Int:=match bs[c]? with
  | some x=>x.term.to
  | none=>[]
theorem tosOf_at {c:Nat} {x:BlkD} (h:bs[c]?=some x):tosOf bs c=x.term.to:=by unfold tosOf;rw [h]
end Go.Proofs.Ytfoggldjjnabcaa
