/- The program's isAhead, endOf. -/
import Derived.Test.YtfoggldjjnabcaaGreatDoorAheadGJ
import Derived.Test.YtfoggldjjnabcaaGreatDoorInsBJ
import Derived.Test.YtfoggldjjnabcaaGreatDoorDmFJ
import Derived.BigQuiet
import Derived.Test.YtfoggldjjnabcaaGreatDoorGrPJ
import Derived.Test.YtfoggldjjnabcaaGreatDoorLastJ
import Derived.Laws.IdiomCopy
import Derived.WalkSmall
import Derived.Test.YtfoggldjjnabcaaGreatDoorInfBJ
import Derived.StillTailTactics
import Derived.RegionTactic
namespace Go.Proofs.YtfoggldjjnabcaaGreatDoor
open Go.ChangeShapes Go.WideShapes Go.RowKit Go.Deep
set_option linter.unusedVariables false
set_option linter.unusedSimpArgs false
def ahB (D:Nat→Nat→Bool) (m e:Mk):Bool:=if m.b=e.b then decide (m.a<e.a) else decide (0≤m.b) && D m.b.toNat e.b.toNat
set_option maxRecDepth 100000 in
set_option maxHeartbeats 8000000 in
theorem endOf_any (f:FunD) (vf:Value) (w:World) (hf:VFun w vf f) (b:Nat) (k:BlkD) (hb:f.blocks[b]?=some k) :
    Calls Tryz.prog 119 #[vf,.int .i64 (b:Int)] w fun e w'=>e=.returned (.agg #[.int .i64 (b:Int),.int .i64 (k.ins.length:Int)])∧Below w.heap.size w w':=by
  have hf0:=hf;obtain ⟨Ar,cr,Ab,cb,rfl,-,hbs,-,-⟩:=hf;have hbl:b<f.blocks.length:=(List.getElem?_eq_some_iff.1 hb).1;have hbn:=hbs.len;obtain ⟨bt,ot,kb,rfl,hkb,-,⟨Ai,ci,p1,-⟩,-⟩:=hbs.at_ hbl;obtain rfl:k=kb:=Option.some.inj (hb.symm.trans hkb.out);(have hb0:(0:Int)≤b:=by omega);(have hb1:(b:Int)<f.blocks.length:=by omega);clear hf0 hbs hkb hb
  (go_enter Tryz.func119,Tryz.ntmps119);(go_upto_region 1 with fail);obtain ⟨W,hW⟩:∃ W,W=(w.alloc (.cells #[.int .i64 f.params,.int .i64 f.result,.slice Ar f.regs.length cr,.slice (some ⟨bt,ot,none⟩) f.blocks.length cb] 30)).alloc (.cells #[.int .i64 0,.int .i64 0] 90):=⟨_,rfl⟩;obtain ⟨N,hN⟩:∃ N,N=w.heap.size:=⟨_,rfl⟩;obtain ⟨bA,bB,hsz,hbel⟩:=boxes2_ w N hN _ _ W hW;rw [← hW,← hN];rw [hN] at hbel;have a3:=q7 bA 3;have e0:=q7 bB 0
  have e1:=q7 bB 1;have z0:=qA bB 0;have z1:=qA bB 1;have p1:=q6 hbel _ _ p1;have HB:=Lib.hid bB;have HBE:=Lib.hid hbel;have HN:=Lib.hid hN;clear hW hN bA bB hsz hbel;go_wp2_with fail
  refine bodyPost_ret (results_cell_row rfl _ _ (N+1) 90 #[.int .i64 b,.int .i64 k.ins.length] (0,0) _ (by rfl) (qF (i:=1) _ (qF (i:=0) _ HB.out)) Tryz.underlying90 (by rfl) (by kernel_rfl)) rfl ?_;exact ⟨rfl,(HBE.out.setCell (p:=⟨N+1,0,none⟩) (by show w.heap.size≤N+1;have:=HN.out;omega) _).setCell (p:=⟨N+1,1,none⟩) (by show w.heap.size≤N+1;have:=HN.out;omega) _⟩
set_option maxRecDepth 100000 in
set_option maxHeartbeats 8000000 in
theorem isAhead_any (n G:Nat) (D0:Nat) (D:Nat→Nat→Bool) (m e:Mk) (w:World) (hG:BGr w G D0 n D) (hm:m.b<n) (he:0≤e.b∧e.b<n) (hn:n≤1000) :
    Calls Tryz.prog 82 #[m.v,e.v,.slice (some ⟨G,0,none⟩) n n] w fun en w'=>en=.returned (.bool (ahB D m e))∧Below w.heap.size w w':=by
  obtain ⟨mr,mb,ma⟩:=m;obtain ⟨er,eb,ea⟩:=e;obtain ⟨rr,hrr⟩:∃ rr,rr=ahB D ⟨mr,mb,ma⟩ ⟨er,eb,ea⟩:=⟨_,rfl⟩;rw [← hrr];have HRR:Hid (rr=if mb=eb then decide (ma<ea) else decide (0≤mb) && D mb.toNat eb.toNat):=Lib.hid hrr;clear hrr;unfold Mk.v;have hm:mb<n:=hm;have he:0≤eb∧eb<n:=he
  (go_enter Tryz.func82,Tryz.ntmps82);(go_upto_region 1 with fail);obtain ⟨W,hW⟩:∃ W,W=(w.alloc (.cells #[.int .i64 mb,.int .i64 ma] 90)).alloc (.cells #[.int .i64 eb,.int .i64 ea] 90):=⟨_,rfl⟩;obtain ⟨N,hN⟩:∃ N,N=w.heap.size:=⟨_,rfl⟩;obtain ⟨bA,bB,hsz,hbel⟩:=boxes2_ w N hN _ _ W hW;rw [← hW,← hN];rw [hN] at hbel;have m0:=q7 bA 0;have m1:=q7 bA 1
  have e0:=q7 bB 0;have e1:=q7 bB 1;have hGW:BGr W G D0 n D:=⟨hG.row.of_block (hbel.block _ hG.row.lt),fun a ha=>(hG.cells a ha).of_block (hbel.block _ (hG.cells a ha).lt),hG.lt⟩;have HGW:=Lib.hid hGW;have HBE:=Lib.hid hbel;clear hW hN bA bB hsz hbel hG hGW
  by_cases hbe:mb=eb
  · subst hbe;(have hbe:(mb == mb)=true:=by simp);have HV:Hid (rr=decide (ma<ea)):=Lib.hid (HRR.out.trans (if_pos rfl));(go_wp2_with fail);(go_ret);exact ⟨by rw [HV.out];rfl,HBE.out⟩
  · (have hbe':(mb == eb)=false:=by simpa using hbe);have HNE:=Lib.hid hbe
    by_cases h0:0≤mb
    · obtain ⟨x,rfl⟩:=Int.eq_ofNat_of_zero_le h0;obtain ⟨y,rfl⟩:=Int.eq_ofNat_of_zero_le he.1;(have hx:x<n:=by omega);(have hy:y<n:=by omega);(have hx1:(x:Int)<n:=by omega);(have hy1:(y:Int)<n:=by omega);have r0:=HGW.out.row.cell hx;have r1:=(HGW.out.cells x hx).cell hy;have hx0:(0:Int)≤x:=by omega
      (have hy0:(0:Int)≤y:=by omega);(have HV:Hid (rr=D x y):=Lib.hid (by rw [HRR.out,if_neg hbe,decide_eq_true hx0];simp));have hd0:decide ((0:Int)≤(x:Nat))=true:=decide_eq_true hx0;clear hbe he hm h0;(go_wp2_with fail);(go_big_quiet (fail));(go_wp2_with fail);(go_ret);exact ⟨by rw [HV.out];rfl,HBE.out.trans ⟨rfl,rfl,rfl,Nat.le_refl _,fun _ _=>rfl⟩⟩
    · have hd0:decide ((0:Int)≤mb)=false:=decide_eq_false h0;(have HV:Hid (rr=false):=Lib.hid (by rw [HRR.out,if_neg hbe,hd0];rfl));clear hbe he hm;(go_wp2_with fail);(go_big_quiet (fail));(go_wp2_with fail);(go_ret);exact ⟨by rw [HV.out];rfl,HBE.out.trans ⟨rfl,rfl,rfl,Nat.le_refl _,fun _ _=>rfl⟩⟩
theorem and_mask (n:Nat) (hn:n≤1000000):bits BinOp.and IntKind.u64 (n:Int) 4294967295=(n:Int):=by
  have h:=bits_and_u64_nat n 4294967295 (by omega) (by omega);have h2:n &&& 4294967295=n:=by
    have:=Nat.and_two_pow_sub_one_eq_mod n 32;rw [show (2:Nat) ^ 32 - 1=4294967295 by decide] at this;rw [this];exact Nat.mod_eq_of_lt (by omega)
  rw [h2] at h;exact h
set_option maxRecDepth 100000 in
theorem mul64_one (n:Nat) (w:World) (hn:n≤1000000):Calls Tryz.prog 147 #[.int .u64 1,.int .u64 (n:Int)] w fun e w'=>e=.returned (.tuple #[.int .u64 0,.int .u64 (n:Int)])∧w=w':=by
  (have e1:bits BinOp.and IntKind.u64 1 4294967295=1:=by decide);have e2:=and_mask n hn;(have e3:(n:Int) / 4294967296=0:=by omega);(have e4:IntKind.u64.wrap (n:Int)=n:=(by rw [IntKind.wrap_u64];omega));(have e5:IntKind.u64.wrap 0=0:=by decide);(have e6:bits BinOp.and IntKind.u64 0 4294967295=0:=by decide);(go_enter Tryz.func147,Tryz.ntmps147);(go_wp2_with fail);go_ret2
  exact ⟨rfl,rfl⟩
set_option maxRecDepth 100000 in
theorem mul_one_ (n:Nat) (w:World) (hn:n≤1000000):Calls Tryz.prog 139 #[.int .u64 1,.int .u64 (n:Int)] w fun e w'=>e=.returned (.tuple #[.int .u64 0,.int .u64 (n:Int)])∧w=w':=by
  (go_enter Tryz.func139,Tryz.ntmps139);(go_wp2_with (go_at_call 147;refine (mul64_one n _ hn).mono ?_;rintro e w' ⟨rfl,rfl⟩));(go_ret2);exact ⟨rfl,rfl⟩
theorem below_setCells_ {B:Nat} {a:World} (b:Nat) (hb:B≤b):∀ (vs:List Value) (o:Nat) {w:World},Below B a w→Below B a (w.setCells b o vs)
  | [],_,_,h=>h
  | v::r,o,_,h=>below_setCells_ b hb r (o+1) (h.setCell (p:=⟨b,o,none⟩) hb v)
theorem wp_copy_runs {P:Program} (w:World) {o:Oper} {a:Act} {K:Act→World→Prop} {Q:Exit→Act→World→Prop} (d s:Operand) (t t':TypeId)
    (ho:o.op=.call { callee:=.builtin .copy,args:=#[d,s],argTypes:=#[t,t'] }) (v u:Value) (hd:a.eval d=v) (hs:a.eval s=u) {v':Value} {w':World}
    (hr:(Builtin.copy_ #[t,t'] o.type #[v,u]).run P w=.ok v' w') (h:K (a.put o.dst v') w'):o.wp P a w K Q:=by
  unfold Oper.wp execOp;simp only [ho,resolve,invoke,builtin,Sem.run_bind,Sem.run_pure,Result.andThen_ok,List.map_toArray,List.map_cons,List.map_nil,hd,hs,hr];exact h
theorem row_setCellsF {G n:Nat} {e:TypeId} (F:Nat→Value):∀ (k o:Nat) {w:World} {V:Nat→Value},w.rowIs G e n V→(w.setCells G o ((List.range' o k).map F)).rowIs G e n (fun j=>if o≤j∧j<o+k then F j else V j)
  | 0,o,w,V,h=>by
    refine (show (w.setCells G o ((List.range' o 0).map F)).rowIs G e n V from h).congr fun j _=>?_;rw [if_neg (by omega)]
  | k+1,o,w,V,h=>by
    rw [List.range'_succ,List.map_cons];refine (show (w.setCells G o (F o::(List.range' (o+1) k).map F)).rowIs G e n _ from row_setCellsF F k (o+1) (h.set o (F o))).congr fun j _=>?_
    by_cases e1:j=o
    · subst e1;rw [if_neg (by omega),if_pos rfl,if_pos (by omega)]
    · by_cases e2:o+1≤j∧j<o+1+k
      · rw [if_pos e2,if_pos (by omega)]
      · rw [if_neg e2,if_neg e1,if_neg (by omega)]
theorem run_copy_cells2 {P:Program} (w:World) (dT sT ty elem:TypeId) (b o dLen dCap:Nat) (a:Addr) (sLen sCap:Nat) (cs:List Value)
    (hu:P.underlying dT=some (.slice elem)) (hs:(P.info? elem).map (·.size)=some 2) (hn:cs.length=Nat.min sLen dLen * 2)
    (hsrc:∀ j v,cs[j]?=some v→w.cell? (a.add j)=some v) (hc:∀ j,j<cs.length→(w.cell? ⟨b,o+j,none⟩).isSome=true) (hf:∀ j,j<cs.length→w.frozen? ⟨b,o+j,none⟩=false) (h1:∀ v∈cs,v.oneCell'=true) :
    (Builtin.copy_ #[dT,sT] ty #[.slice (some ⟨b,o,none⟩) dLen dCap,.slice (some a) sLen sCap]).run P w=.ok (goInt (Nat.min sLen dLen)) (w.setCells b o cs):=by
  have hl:=run_loadCells_list (P:=P) w a cs hsrc;have hst:=run_storeCells_cells (P:=P) b o cs 0 w (by simpa using hc) (by simpa using hf) h1;cases hq:P.info? elem with
  | none=>simp [hq] at hs
  | some i =>
    (have hi:i.size=2:=by simpa [hq] using hs);simp [Builtin.copy_,run_underlying hu,Builtin.lenOf,Builtin.firstCells,sizeOf,typeInfo,hq,hi,← hn,hl,hst]
def mkC (b a:Int) (j:Nat):Value:=if j % 2=0 then .int .i64 b else .int .i64 a
theorem copy_mk {P:Program} (t ty e:TypeId) (hu:P.underlying t=some (.slice e)) (hs:(P.info? e).map (·.size)=some 2) {w:World} {G n k d:Nat} {V:Nat→Value} (h:w.rowIs G e (2 * n) V) {b a:Int} {H c c':Nat} (hkn:k+d≤n)
    (hsrc:∀ j,j<2 * d→w.cell? ⟨H,j,none⟩=some (mkC b a j)) (sl dl:Nat) (hmin:Nat.min sl dl=d) :
    ∃ w',(Builtin.copy_ #[t,t] ty #[.slice (some ⟨G,k * 2,none⟩) dl c,.slice (some ⟨H,0,none⟩) sl c']).run P w=.ok (.int .i64 (d:Int)) w' ∧
      w'.rowIs G e (2 * n) (fun j=>if 2 * k≤j∧j<2 * k+2 * d then mkC b a j else V j)∧∀ B a,B≤G→Below B a w→Below B a w':=by
  have hcs:∀ j v,((List.range' (k * 2) (2 * d)).map (mkC b a))[j]?=some v→j<2 * d∧v=mkC b a j:=fun j v hj=>by
    rw [List.getElem?_map] at hj
    by_cases hjd:j<2 * d
    · rw [List.getElem?_range' hjd] at hj;refine ⟨hjd,?_⟩;(have:mkC b a (k * 2+1 * j)=v:=by simpa using hj);(rw [← this];unfold mkC);rw [show (k * 2+1 * j) % 2=j % 2 by omega]
    · rw [List.getElem?_eq_none (by simp;omega)] at hj;cases hj
  refine ⟨w.setCells G (k * 2) ((List.range' (k * 2) (2 * d)).map (mkC b a)),?_,?_,fun B a hB hw=>below_setCells_ G hB _ _ hw⟩
  · have:=run_copy_cells2 (P:=P) w t t ty e G (k * 2) dl c ⟨H,0,none⟩ sl c' ((List.range' (k * 2) (2 * d)).map (mkC b a)) hu hs (by rw [List.length_map,List.length_range',hmin];omega)
      (fun j v hj=>by
        obtain ⟨h1,rfl⟩:=hcs j v hj
        rw [show (⟨H,0,none⟩:Addr).add j=⟨H,j,none⟩ by unfold Addr.add;simp <;> omega];exact hsrc j h1)
      (fun j hj=>by rw [List.length_map,List.length_range'] at hj;rw [h.cell (by omega)];rfl) (fun j _=>h.frozen _)
      (fun v hv=>by obtain ⟨j,hj⟩:=List.mem_iff_getElem?.1 hv;obtain ⟨-,rfl⟩:=hcs j v hj;unfold mkC;split <;> rfl)
    rw [hmin] at this;exact this
  · refine (row_setCellsF (mkC b a) (2 * d) (k * 2) h).congr fun j _=>?_;rw [show k * 2=2 * k by omega]
theorem run_make_mk {P:Program} (t e:TypeId) (ht:P.underlying t=some (.slice e)) (hinfo:(P.info? e).map (fun i=>(i.zero,i.size,i.bytes))=some (some (.agg #[.int .i64 0,.int .i64 0]),2,16))
    (kl kc:IntKind) (n:Nat) (hn:n≤1000000) (w:World) :
    (Instr.makeSlice t (.int kl (n:Int)) (.int kc (n:Int))).run P w=.ok (.slice (some ⟨w.heap.size,0,none⟩) n n) (w.alloc (.cells (madeCells #[.int .i64 0,.int .i64 0] (n * 2)) e)):=by
  obtain ⟨i,hi,hzz⟩:=Option.map_eq_some_iff.1 hinfo;simp only [Prod.mk.injEq] at hzz;obtain ⟨hz,hs,hb⟩:=hzz;(have hr:=run_make (P:=P) w t e i _ ht hi hz kl kc n n (by omega) (Int.le_refl _) (by rw [hb];omega) (by omega));simp only [Int.toNat_natCast,hs] at hr;exact hr
theorem rowIs_made2 (w:World) (n:Nat) (t:TypeId):(w.alloc (.cells (madeCells #[.int .i64 0,.int .i64 0] (n * 2)) t)).rowIs w.heap.size t (2 * n) (fun _=>.int .i64 0) :=
  ⟨_,blk_alloc_new _ _,by rw [size_madeCells];omega,fun i hi=>by
    (have h2:i % 2=0∨i % 2=1:=by omega);simp only [madeCells];(have hr:(Array.range (n * 2))[i]?=some i:=by rw [Array.getElem?_eq_getElem (by simp;omega)];simp);rw [Array.getElem?_map,hr]
    rcases h2 with h2 | h2 <;> simp [h2]⟩
def ToldMr (n:Nat) (b a:Int) (w:World) (e:Ending) (w':World):Prop :=
  (∃ G,e=.returned (.slice (some ⟨G,0,none⟩) n n)∧w.heap.size≤G∧w'.rowIs G 90 (2 * n) (mkC b a))∧Below w.heap.size w w'
theorem copy_mk0 {P:Program} (t ty e:TypeId) (hu:P.underlying t=some (.slice e)) (hs:(P.info? e).map (·.size)=some 2) (w:World) (G c:Nat) (A:Addr) (c':Nat) :
    (Builtin.copy_ #[t,t] ty #[.slice (some ⟨G,0,none⟩) 0 c,.slice (some A) 1 c']).run P w=.ok (.int .i64 ((0:Nat):Int)) w:=by
  have h:=run_copy_cells2 (P:=P) w t t ty e G 0 0 c A 1 c' [] hu hs (by simp) (fun j v hj=>by simp at hj) (fun j hj=>by simp at hj) (fun j hj=>by simp at hj) (fun v hv=>by cases hv);exact h
set_option maxRecDepth 100000 in
set_option maxHeartbeats 4000000 in
theorem repeatMk_any (n H c:Nat) (b a:Int) (w:World) (hc0:w.cell? ⟨H,0,none⟩=some (.int .i64 b)) (hc1:w.cell? ⟨H,1,none⟩=some (.int .i64 a)) (hn:n≤1000000):Calls Tryz.prog 117 #[.slice (some ⟨H,0,none⟩) 1 c,.int .i64 (n:Int)] w (ToldMr n b a w):=by
  have hmk2:=run_make_mk (P:=Tryz.prog) 131 90 Tryz.underlying131 (by kernel_rfl) .i64 .i64 n hn;(have e4:IntKind.u64.wrap (n:Int)=n:=(by rw [IntKind.wrap_u64];omega));(have hsz:(Tryz.prog.info? 90).map (·.size)=some 2:=by kernel_rfl);obtain ⟨W0,hW0⟩:∃ W0,w.alloc (.cells (madeCells #[.int .i64 0,.int .i64 0] (n * 2)) 90)=W0:=⟨_,rfl⟩;(have hb0:Below w.heap.size w W0:=by rw [← hW0];exact (Below.refl _ _).alloc (Nat.le_refl _) _);have hr0:W0.rowIs w.heap.size 90 (2 * n) (fun j=>if j<2 * 0 then mkC b a j else .int .i64 0):=by
    rw [← hW0];exact (rowIs_made2 w n 90).congr fun j _=>by simp
  have hcw:∀ j,j<2 * 1→W0.cell? ⟨H,j,none⟩=some (mkC b a j):=fun j hj=>by
    rcases (show j=0∨j=1 by omega) with rfl | rfl
    · exact (hb0.cell (p:=⟨H,0,none⟩) (World.block_lt_of_cell? w _ hc0)).trans hc0
    · exact (hb0.cell (p:=⟨H,1,none⟩) (World.block_lt_of_cell? w _ hc1)).trans hc1
  obtain ⟨k,w1,hr,hkn,hk0,hrow,hB⟩:∃ (k:Nat) (w1:World),(Builtin.copy_ #[131,131] 3 #[.slice (some ⟨w.heap.size,0,none⟩) n n,.slice (some ⟨H,0,none⟩) 1 c]).run Tryz.prog W0=.ok (.int .i64 (k:Int)) w1∧k≤n∧(n=0∨1≤k)∧w1.rowIs w.heap.size 90 (2 * n) (fun j=>if j<2 * k then mkC b a j else .int .i64 0)∧Below w.heap.size w w1:=by
    by_cases h0:n=0
    · subst h0;exact ⟨0,W0,copy_mk0 131 3 90 Tryz.underlying131 hsz W0 _ 0 _ c,Nat.le_refl _,.inl rfl,hr0,hb0⟩
    · (obtain ⟨w1,h1,h2,h3⟩:=copy_mk (P:=Tryz.prog) 131 3 90 Tryz.underlying131 hsz hr0 (k:=0) (d:=1) (b:=b) (a:=a) (H:=H) (c:=n) (c':=c) (by omega) hcw 1 n (by show min 1 n=1;omega));exact ⟨1,w1,h1,by omega,.inr (Nat.le_refl _),h2.congr fun j _=>by by_cases e:j<2 * 1;rw [if_pos (by omega),if_pos e];rw [if_neg (by omega),if_neg e,if_neg (by omega)],h3 _ _ (Nat.le_refl _) hb0⟩
  have HR:=Lib.hid hrow;have HB:=Lib.hid hB;have HK0:=Lib.hid hk0;clear hrow hB hk0 hb0 hr0 hcw hc0 hc1 hsz;(go_enter Tryz.func117,Tryz.ntmps117);(go_wp2_with (first | (go_at_call 139;refine (mul_one_ n _ hn).mono ?_;rintro e w' ⟨rfl,rfl⟩) | (at_builtin;rw [hW0];refine wpList_copy_runs _ rfl (.tmp 31) (.tmp 32) 131 131 rfl _ _ rfl rfl hr ?_)));clear hr hmk2 e4 hW0;obtain ⟨G,hG⟩:∃ G,G=w.heap.size:=⟨_,rfl⟩;have HG:=Lib.hid hG
  rw [← hG] at HR HB ⊢;clear hG
  go_loopw [8] (fun m wr=>∃ k:Nat,k≤n∧m=.int .i64 k∧(n=0∨1≤k)∧wr.rowIs G 90 (2 * n) (fun j=>if j<2 * k then mkC b a j else .int .i64 0)∧Below G w wr) (fun m _=>n - (intOf m).toNat)
  case atStart=>exact ⟨k,hkn,rfl,HK0.out,HR.out,HB.out⟩
  case round =>
    clear hkn HR HB HK0;obtain ⟨k,hkn,rfl,hk0,hrow,hbr⟩:=hrel
    by_cases hlt:k<n
    · have hk1:1≤k:=by omega
      obtain ⟨w2,hr2,hrow2,hb2⟩:=copy_mk (P:=Tryz.prog) 131 3 90 Tryz.underlying131 (by kernel_rfl) (w:=wr.drew) (show wr.drew.rowIs G 90 (2 * n) _ from hrow) (k:=k) (d:=min k (n - k)) (b:=b) (a:=a) (H:=G) (c:=n - k) (c':=n) (by omega) (fun j hj=>by
        have:=World.rowIs.cell hrow (i:=j) (by omega)
        rw [if_pos (by omega)] at this;exact this) k (n - k) rfl
      have HX:Hid (w2.rowIs G 90 (2 * n) (fun j=>if j<2 * (k+min k (n - k)) then mkC b a j else .int .i64 0)∧Below G w w2):=Lib.hid ⟨hrow2.congr fun j _=>by
        by_cases e:j<2 * k
        · rw [if_neg (by omega),if_pos e,if_pos (by omega)]
        · by_cases e2:j<2 * (k+min k (n - k))
          · rw [if_pos (by omega),if_pos e2]
          · rw [if_neg (by omega),if_neg e,if_neg e2],hb2 _ _ (Nat.le_refl _) hbr.drew⟩
      (have hnk:¬ (n=k):=by omega);clear hrow2 hb2 hrow hbr hk0;(have e1:IntKind.i64.wrap ((k:Int)+((min k (n - k):Nat):Int))=((k+min k (n - k):Nat):Int):=by rw [Go.IntWalk.i64_in _ (by omega)];omega);have E1:=Lib.hid e1;clear e1;(go_wp2_with fail);refine qI (L:=9) (S:=fun w'=>True) (by kernel_rfl) (by rfl) (by kernel_rfl) (by kernel_rfl) ?_;change wpAnyH _ _ _ _ _ _ _ _ (World.drew _);refine tk 0 38 trivial ?_
      simp only [Act.put,aS,List.set_cons_zero,List.set_cons_succ];refine tk 1 39 trivial ?_;simp only [Act.put,aS,List.set_cons_zero,List.set_cons_succ];refine tk 2 40 trivial ?_;simp only [Act.put,aS,List.set_cons_zero,List.set_cons_succ];refine tk 3 41 trivial ?_;simp only [Act.put,aS,List.set_cons_zero,List.set_cons_succ];refine tk 4 42 trivial ?_;simp only [Act.put,aS,List.set_cons_zero,List.set_cons_succ]
      refine tk 5 43 trivial ?_;simp only [Act.put,aS,List.set_cons_zero,List.set_cons_succ];refine tk 6 44 trivial ?_;simp only [Act.put,aS,List.set_cons_zero,List.set_cons_succ];refine oneH (i:=7) (by kernel_rfl) (fun o ho K' hK=>?_);(simp only [List.getElem?_toArray,List.getElem?_cons_zero,List.getElem?_cons_succ,Option.some.injEq] at ho;subst ho);refine wp_copy_runs _ (.tmp 41) (.tmp 44) 131 131 (by rfl) _ _ (by rfl) (by rfl) hr2 ?_;refine hK.out _ _ trivial ?_;clear hK K'
      simp only [Act.put,aS,List.set_cons_zero,List.set_cons_succ];refine tk 8 46 trivial ?_;simp only [Act.put,aS,List.set_cons_zero,List.set_cons_succ];refine wpAnyH_done (by kernel_rfl) ?_ _;refine lastH (by decide) (fun o ho K' hK=>?_);(simp only [List.getElem?_toArray,List.getElem?_cons_zero,List.getElem?_cons_succ,Option.some.injEq] at ho;subst ho);(go_simp);refine hK.out _ _ ?_;clear hK K'
      go_wp2_with fail
      go_roundw
      case rel=>exact ⟨k+min k (n - k),by omega,by rw [← E1.out],.inr (by omega),HX.out.1,HX.out.2⟩
      case measure=>simp only [intOf];have:=E1.out;simp;omega
    · (obtain rfl:k=n:=by omega);have HX:=Lib.hid (And.intro hrow hbr);clear hrow hbr hk0;(go_wp2_with fail);(go_ret);exact ⟨⟨G,rfl,by rw [HG.out];exact Nat.le_refl _,HX.out.1.congr fun j hj=>by rw [if_pos (by omega)]⟩,by rw [← HG.out];exact HX.out.2⟩
theorem call_enter {P:Program} {f:FuncId} {fn:Func} {c:Code} (hf:P.funcs[f]?=some fn) (hname:(fn.name == "runtime.NumGoroutine")=false) (hb:fn.body=some c) (args:Array Value) (w:World) :
    (callFunc f args).run P w=.ok (.enter f args) w:=by
  (have h1:fn.name≠"runtime.NumGoroutine":=by simpa using hname);simp [callFunc,hf,h1,hb]
structure AgP (n GM GA BM BA:Nat) (l:List Mk) (w:World):Prop where
  m:w.rowIs GM 4 n (fun j=>.bool (decide (0<cntM l j)))
  a:w.rowIs GA 4 n (fun j=>.bool (decide (2≤cntM l j)))
  bm:w.heap[BM]?=some (.cells #[.slice (some ⟨GM,0,none⟩) n n] 64)
  ba:w.heap[BA]?=some (.cells #[.slice (some ⟨GA,0,none⟩) n n] 64)
theorem AgP.below {n GM GA BM BA:Nat} {l:List Mk} {w w':World} (h:AgP n GM GA BM BA l w) (hb:Below w.heap.size w w'):AgP n GM GA BM BA l w' :=
  ⟨h.m.of_block (hb.block _ h.m.lt),h.a.of_block (hb.block _ h.a.lt),(hb.block _ (qO h.bm)).trans h.bm,(hb.block _ (qO h.ba)).trans h.ba⟩
set_option maxRecDepth 100000 in
set_option maxHeartbeats 8000000 in
theorem again_step {n GM GA BM BA:Nat} {l:List Mk} {w:World} (e:Mk) (h:AgP n GM GA BM BA l w) (hMA:GM≠GA) (hMB:GM≠BM) (hMC:GM≠BA) (hAB:GA≠BM) (hAC:GA≠BA) (hr0:0≤e.r) (hrn:e.r<n) :
    Calls Tryz.prog 77 #[.int .i64 e.r,e.v,.pointer (some ⟨BM,0,none⟩),.pointer (some ⟨BA,0,none⟩)] w fun en w'=>en=.returned (.tuple #[])∧AgP n GM GA BM BA (l++[e]) w'∧FrX (fun b=>b=GM∨b=GA) w w':=by
  obtain ⟨r,b,a⟩:=e;obtain ⟨k,rfl⟩:=Int.eq_ofNat_of_zero_le (show (0:Int)≤r from hr0);(have hkn:k<n:=by have:((k:Nat):Int)<n:=hrn;omega);(have hk1:((k:Nat):Int)<n:=by omega);(have hk0:(0:Int)≤k:=by omega);unfold Mk.v;have H:=Lib.hid h;clear h hr0 hrn;go_enter Tryz.func77,Tryz.ntmps77
  (go_upto_region 1 with fail);obtain ⟨w1,hw1,hs1,hk1',hbel1,hc1,-⟩:=named w #[.int .i64 b,.int .i64 a] 90;rw [← hw1];have h1:=H.out.below hbel1;have m0:=h1.m.cell hkn;have a0:=h1.a.cell hkn;have m1:=h1.m.frozen k;have a1:=h1.a.frozen k;have d0:=q7 h1.bm 0
  have e0:=q7 h1.ba 0;have H1:=Lib.hid h1;have HB1:=Lib.hid hbel1;clear hw1 hs1 hk1' hbel1 hc1 h1;(go_region);have hM2:=((H1.out.m.setOther (a:=⟨GA,k,none⟩) hMA (.bool (decide (0<cntM l k)))).set k (.bool true)).drew;have hA2:=((H1.out.a.set k (.bool (decide (0<cntM l k)))).setOther (a:=⟨GM,k,none⟩) (Ne.symm hMA) (.bool true)).drew;have hbm:=(Below.heap_setCell (w1.setCell ⟨GA,k,none⟩ (.bool (decide (0<cntM l k)))) ⟨GM,k,none⟩ (.bool true) BM (fun e=>hMB e.symm)).trans ((Below.heap_setCell w1 ⟨GA,k,none⟩ (.bool (decide (0<cntM l k))) BM (fun e=>hAB e.symm)).trans H1.out.bm);have hba:=(Below.heap_setCell (w1.setCell ⟨GA,k,none⟩ (.bool (decide (0<cntM l k)))) ⟨GM,k,none⟩ (.bool true) BA (fun e=>hMC e.symm)).trans ((Below.heap_setCell w1 ⟨GA,k,none⟩ (.bool (decide (0<cntM l k))) BA (fun e=>hAC e.symm)).trans H1.out.ba)
  have HE:Hid (AgP n GM GA BM BA (l++[⟨((k:Nat):Int),b,a⟩]) ((w1.setCell ⟨GA,k,none⟩ (.bool (decide (0<cntM l k)))).setCell ⟨GM,k,none⟩ (.bool true)).drew∧FrX (fun b=>b=GM∨b=GA) w ((w1.setCell ⟨GA,k,none⟩ (.bool (decide (0<cntM l k)))).setCell ⟨GM,k,none⟩ (.bool true)).drew):=Lib.hid
    ⟨⟨hM2.congr fun j _=>by
        rw [qs]
        by_cases e:j=k
        · subst e;simp
        · rw [if_neg e,if_neg (by show ¬ ((k:Nat):Int)=(j:Int);omega),Nat.add_zero],
      hA2.congr fun j _=>by
        rw [qs]
        by_cases e:j=k
        · subst e;simp;omega
        · rw [if_neg e,if_neg (by show ¬ ((k:Nat):Int)=(j:Int);omega),Nat.add_zero],hbm,hba⟩,
      ((((FrX.refl _ w).trans (FrX.of_below HB1.out)).setCell (p:=⟨GA,k,none⟩) (.inl (.inr rfl)) _).setCell (p:=⟨GM,k,none⟩) (.inl (.inl rfl)) _).drew⟩
  clear hM2 hA2 hbm hba;(go_end0);exact ⟨rfl,HE.out.1,HE.out.2⟩
def mkF (l:List Mk) (j:Nat):Value:=if j % 2=0 then .int .i64 (fstM l (j / 2)).b else .int .i64 (fstM l (j / 2)).a
structure MkP (n GM GR BM BR:Nat) (l:List Mk) (w:World):Prop where
  m:w.rowIs GM 4 n (fun j=>.bool (decide (0<cntM l j)))
  r:w.rowIs GR 90 (2 * n) (mkF l)
  bm:w.heap[BM]?=some (.cells #[.slice (some ⟨GM,0,none⟩) n n] 64)
  br:w.heap[BR]?=some (.cells #[.slice (some ⟨GR,0,none⟩) n n] 131)
theorem MkP.below {n GM GR BM BR:Nat} {l:List Mk} {w w':World} (h:MkP n GM GR BM BR l w) (hb:Below w.heap.size w w'):MkP n GM GR BM BR l w' :=
  ⟨h.m.of_block (hb.block _ h.m.lt),h.r.of_block (hb.block _ h.r.lt),(hb.block _ (qO h.bm)).trans h.bm,(hb.block _ (qO h.br)).trans h.br⟩
set_option maxRecDepth 100000 in
set_option maxHeartbeats 8000000 in
theorem maker_step {n GM GR BM BR:Nat} {l:List Mk} {w:World} (e:Mk) (h:MkP n GM GR BM BR l w) (hMA:GM≠GR) (hMB:GM≠BM) (hMC:GM≠BR) (hAB:GR≠BM) (hAC:GR≠BR) (hr0:0≤e.r) (hrn:e.r<n) (hn:n≤1000000) :
    Calls Tryz.prog 118 #[.int .i64 e.r,e.v,.pointer (some ⟨BM,0,none⟩),.pointer (some ⟨BR,0,none⟩)] w fun en w'=>en=.returned (.tuple #[])∧MkP n GM GR BM BR (l++[e]) w'∧FrX (fun b=>b=GM∨b=GR) w w':=by
  obtain ⟨r,b,a⟩:=e;obtain ⟨k,rfl⟩:=Int.eq_ofNat_of_zero_le (show (0:Int)≤r from hr0);(have hkn:k<n:=by have:((k:Nat):Int)<n:=hrn;omega);(have hk1:((k:Nat):Int)<n:=by omega);(have hk0:(0:Int)≤k:=by omega);unfold Mk.v;have H:=Lib.hid h;clear h hr0 hrn;go_enter Tryz.func118,Tryz.ntmps118
  (go_upto_region 1 with fail);obtain ⟨w1,hw1,hs1,hk1',hbel1,hc1,-⟩:=named w #[.int .i64 b,.int .i64 a] 90;rw [← hw1];obtain ⟨N,hN⟩:∃ N,N=w.heap.size:=⟨_,rfl⟩;rw [← hN] at hc1 ⊢;have x0:=hc1 0 _ rfl;have x1:=hc1 1 _ rfl;have h1:=H.out.below hbel1;have m0:=h1.m.cell hkn
  have m1:=h1.m.frozen k;have r0:=h1.r.cell (i:=k * 2) (by omega);have r1:=h1.r.cell (i:=k * 2+1) (by omega);have z0:=h1.r.frozen (k * 2);have z1:=h1.r.frozen (k * 2+1);have d0:=q7 h1.bm 0;have e0:=q7 h1.br 0;have H1:=Lib.hid h1;have HB1:=Lib.hid hbel1
  clear hw1 hs1 hk1' hbel1 hc1 h1 hN
  by_cases hc:0<cntM l k
  · have hd:decide (0<cntM l k)=true:=decide_eq_true hc;rw [hd] at m0
    have HE:Hid (MkP n GM GR BM BR (l++[⟨((k:Nat):Int),b,a⟩]) w1):=Lib.hid ⟨H1.out.m.congr fun j _=>by
        rw [qs]
        by_cases e:j=k
        · subst e;rw [decide_eq_true hc,decide_eq_true (by omega)]
        · rw [if_neg (by show ¬ ((k:Nat):Int)=(j:Int);omega),Nat.add_zero],
      H1.out.r.congr fun j _=>by
        unfold mkF;have hf:fstM (l++[⟨((k:Nat):Int),b,a⟩]) (j / 2)=fstM l (j / 2):=by
          by_cases e:j / 2=k
          · exact fstM_old (.inl (by rw [e];exact hc))
          · exact fstM_old (.inr (by show ¬ ((k:Nat):Int)=((j / 2:Nat):Int);omega))
        rw [hf],H1.out.bm,H1.out.br⟩
    clear r0 r1 hc hd;(go_wp2_with fail);(go_end0);exact ⟨rfl,HE.out,FrX.of_below HB1.out⟩
  · have hd:decide (0<cntM l k)=false:=decide_eq_false hc;rw [hd] at m0;have HC:=Lib.hid hc;clear hc hd;(go_upto_region 2 with fail);(go_region);have hM2:=(((H1.out.m.setOther (a:=⟨GR,k * 2,none⟩) hMA (.int .i64 b)).setOther (a:=⟨GR,k * 2+1,none⟩) hMA (.int .i64 a)).set k (.bool true)).drew;have hR2:=(((H1.out.r.set (k * 2) (.int .i64 b)).set (k * 2+1) (.int .i64 a)).setOther (a:=⟨GM,k,none⟩) (Ne.symm hMA) (.bool true)).drew;have hb3:∀ B,B≠GR→B≠GM→(((w1.setCell ⟨GR,k * 2,none⟩ (.int .i64 b)).setCell ⟨GR,k * 2+1,none⟩ (.int .i64 a)).setCell ⟨GM,k,none⟩ (.bool true)).drew.heap[B]?=w1.heap[B]?:=fun B h1 h2 =>
      (Below.heap_setCell ((w1.setCell ⟨GR,k * 2,none⟩ (.int .i64 b)).setCell ⟨GR,k * 2+1,none⟩ (.int .i64 a)) ⟨GM,k,none⟩ (.bool true) B h2).trans ((Below.heap_setCell (w1.setCell ⟨GR,k * 2,none⟩ (.int .i64 b)) ⟨GR,k * 2+1,none⟩ (.int .i64 a) B h1).trans (Below.heap_setCell w1 ⟨GR,k * 2,none⟩ (.int .i64 b) B h1))
    have HE:Hid (MkP n GM GR BM BR (l++[⟨((k:Nat):Int),b,a⟩]) (((w1.setCell ⟨GR,k * 2,none⟩ (.int .i64 b)).setCell ⟨GR,k * 2+1,none⟩ (.int .i64 a)).setCell ⟨GM,k,none⟩ (.bool true)).drew∧FrX (fun b=>b=GM∨b=GR) w (((w1.setCell ⟨GR,k * 2,none⟩ (.int .i64 b)).setCell ⟨GR,k * 2+1,none⟩ (.int .i64 a)).setCell ⟨GM,k,none⟩ (.bool true)).drew):=Lib.hid
      ⟨⟨hM2.congr fun j _=>by
          rw [qs]
          by_cases e:j=k
          · subst e;simp
          · rw [if_neg e,if_neg (by show ¬ ((k:Nat):Int)=(j:Int);omega),Nat.add_zero],
        hR2.congr fun j _=>by
          unfold mkF
          by_cases e:j / 2=k
          · rw [e,fstM_new HC.out rfl];rcases (show j=k * 2∨j=k * 2+1 by omega) with rfl | rfl
            · rw [if_neg (by omega),if_pos rfl,if_pos (by omega)]
            · rw [if_pos rfl,if_neg (by omega)]
          · rw [fstM_old (.inr (by show ¬ ((k:Nat):Int)=((j / 2:Nat):Int);omega)),if_neg (by omega),if_neg (by omega)],(hb3 BM (Ne.symm hAB) (Ne.symm hMB)).trans H1.out.bm,(hb3 BR (Ne.symm hAC) (Ne.symm hMC)).trans H1.out.br⟩,
        (((((FrX.refl _ w).trans (FrX.of_below HB1.out)).setCell (p:=⟨GR,k * 2,none⟩) (.inl (.inr rfl)) _).setCell (p:=⟨GR,k * 2+1,none⟩) (.inl (.inr rfl)) _).setCell (p:=⟨GM,k,none⟩) (.inl (.inl rfl)) _).drew⟩
    clear hM2 hR2 hb3;(go_end0);exact ⟨rfl,HE.out.1,HE.out.2⟩
theorem boxes5_ {w W:World} {o0 o1 o2 o3 o4:Obj} (hW:((((w.alloc o0).alloc o1).alloc o2).alloc o3).alloc o4=W) :
    W.heap[w.heap.size]?=some o0∧W.heap[w.heap.size+1]?=some o1∧W.heap[w.heap.size+1+1]?=some o2∧W.heap[w.heap.size+1+1+1]?=some o3∧W.heap[w.heap.size+1+1+1+1]?=some o4∧Below w.heap.size w W:=by
  subst hW;(have hz (u:World) (o:Obj):(u.alloc o).heap.size=u.heap.size+1:=by simp);have hg (u:World) (o:Obj) (k:Nat):(u.alloc o).heap[k]?=if k=u.heap.size then some o else u.heap[k]?:=by
    show (u.heap.push o)[k]?=_;rw [Array.getElem?_push]
  refine ⟨?_,?_,?_,?_,?_,?_⟩
  · simp only [hg,hz];(repeat rw [if_neg (by omega)]);exact if_pos (by first | trivial | omega)
  · simp only [hg,hz];(repeat rw [if_neg (by omega)]);exact if_pos (by first | trivial | omega)
  · simp only [hg,hz];(repeat rw [if_neg (by omega)]);exact if_pos (by first | trivial | omega)
  · simp only [hg,hz];(repeat rw [if_neg (by omega)]);exact if_pos (by first | trivial | omega)
  · simp only [hg,hz];exact if_pos (by first | trivial | omega)
  · refine Below.alloc (Below.alloc (Below.alloc (Below.alloc (Below.alloc (Below.refl _ _) ?_ _) ?_ _) ?_ _) ?_ _) ?_ _;(all_goals (try simp only [hz]));all_goals omega
def OfNone (w:World):Prop:=w.cell? ⟨1,0,none⟩=some (.int .i64 (-1))∧w.cell? ⟨1,1,none⟩=some (.int .i64 (-2))
theorem OfNone.keep {w w':World} (h:OfNone w) (hk:Kept w w'):OfNone w':=⟨hk _ _ h.1,hk _ _ h.2⟩
def ToldMa (f:FunD) (w:World) (e:Ending) (w':World):Prop :=
  (∃ G,e=.returned (.slice (some ⟨G,0,none⟩) f.regs.length f.regs.length)∧w.heap.size≤G∧w'.rowIs G 4 f.regs.length (fun j=>.bool (decide (2≤cntM (evL f) j))))∧Below w.heap.size w w'
set_option maxRecDepth 100000 in
set_option maxHeartbeats 8000000 in
theorem madeAgain_any (f:FunD) (vf:Value) (w:World) (hf:VFun w vf f) (hn:f.regs.length≤300) (hG:OfNone w):Calls Tryz.prog 38 #[vf] w (ToldMa f w):=by
  have hf0:=hf;obtain ⟨Ar,cr,Ab,cb,rfl,hr0,hb0,hp0,-⟩:=hf;have HVF:=Lib.hid hf0;have HG:=Lib.hid hG;have hmk:=run_make_row' (P:=Tryz.prog) 64 4 (.bool false) 1 Tryz.underlying64 Tryz.info4 rfl .i64 .i64 f.regs.length (by omega) (by omega);clear hf0 hr0 hb0 hp0 hG;(go_enter Tryz.func38,Tryz.ntmps38);(go_upto_region 1 with fail);rename_i K aK
  have HK:Hid (∀ (BM BA GM GA:Nat) (W:World),W.heap[BM]?=some (.cells #[.slice (some ⟨GM,0,none⟩) f.regs.length f.regs.length] 64)→W.heap[BA]?=some (.cells #[.slice (some ⟨GA,0,none⟩) f.regs.length f.regs.length] 64) →
      W.heap[GM]?=some (.cells (madeCells #[.bool false] f.regs.length) 4)→W.heap[GA]?=some (.cells (madeCells #[.bool false] f.regs.length) 4)→W.heap[w.heap.size]?=some (.cells #[.int .i64 f.params,.int .i64 f.result,.slice Ar f.regs.length cr,.slice Ab f.blocks.length cb] 30) →
      (GM≠GA∧GM≠BM∧GM≠BA∧GA≠BM∧GA≠BA∧w.heap.size<GM∧w.heap.size<GA)→Below w.heap.size w W→K ⟨#[.agg #[.int .i64 f.params,.int .i64 f.result,.slice Ar f.regs.length cr,.slice Ab f.blocks.length cb],.pointer (some ⟨w.heap.size,0,none⟩),.slice none 0 0,.pointer (some ⟨BM,0,none⟩),.pointer (some ⟨BA,0,none⟩),.pointer (some ⟨w.heap.size,2,none⟩),.slice Ar f.regs.length cr,.int .i64 f.regs.length,.slice (some ⟨GM,0,none⟩) f.regs.length f.regs.length,.pointer (some ⟨w.heap.size,2,none⟩),.slice Ar f.regs.length cr,.int .i64 f.regs.length,.slice (some ⟨GA,0,none⟩) f.regs.length f.regs.length,undef,undef,undef,undef],[]⟩ W):=Lib.hid (by
    intro BM BA GM GA W bm ba gm ga bf hd hb;refine aK _ _ ?_;clear aK;obtain ⟨d1,d2,d3,d4,d5,d6,d7⟩:=hd;have f0:=q7 bf 0;have f1:=q7 bf 1;have f2:=q7 bf 2;have f3:=q7 bf 3;have hrow:∀ G,W.heap[G]?=some (.cells (madeCells #[.bool false] f.regs.length) 4)→W.rowIs G 4 f.regs.length (fun _=>.bool false):=fun G h=>⟨_,h,size_madeCells _ _,fun i hi=>by simp [madeCells,hi,Nat.mod_one]⟩
    have hP:AgP f.regs.length GM GA BM BA [] W:=⟨(hrow _ gm).congr fun j _=>by simp [cntM],(hrow _ ga).congr fun j _=>by simp [cntM],bm,ba⟩;have hlt:∀ B,(∃ c,W.heap[B]?=some c)→B<W.heap.size:=fun B ⟨c,h⟩=>(Array.getElem?_eq_some_iff.1 h).1;have HV:Hid (Vis (AgP f.regs.length GM GA BM BA) (fun b=>b=GM∨b=GA) f.regs.length 77 (.pointer (some ⟨BM,0,none⟩)) (.pointer (some ⟨BA,0,none⟩)) W):=Lib.hid
      ⟨call_enter Tryz.func77 (by kernel_rfl) rfl,fun b hb=>by
        rcases hb with rfl | rfl
        · exact hlt _ ⟨_,gm⟩
        · exact hlt _ ⟨_,ga⟩,fun l u u' h h2=>h.below h2,fun l e u hp hx h0 h1=>again_step e hp d1 d2 d3 d4 d5 h0 h1⟩
    (have hKW:∀ w',FrX (fun b=>b=GM∨b=GA) W w'→Below w.heap.size w w':=fun w' h=>hb.trans (h.below hb.size (fun k hk=>by rcases hk with rfl | rfl <;> omega)));have HEM:=Lib.hid (eachMade_any f _ w W HV.out HVF.out (fun w' h=>q6 (hKW w' h)) (fun w' h=>HG.out.keep (q6 (hKW w' h))) hP);have HKW:=Lib.hid hKW;have HD:=Lib.hid (And.intro d6 d7);clear bm gm ga hrow hP hlt hKW d1 d2 d3 d4 d5 d6 d7 hb;(go_wp2_with fail);refine HEM.out.mono ?_;rintro e w2 ⟨rfl,hp2,hx2⟩;have b1:=q7 hp2.ba 0
    have HP2:=Lib.hid hp2;have HX2:=Lib.hid (HKW.out _ hx2);clear hp2 hx2 f0 f1 f2 f3 ba bf;(go_wp2_with fail);go_ret
    exact ⟨⟨GA,rfl,by have:=HD.out;omega,HP2.out.a⟩,HX2.out⟩)
  clear aK;(go_region);all_goals
    generalize hW:World.alloc (World.alloc (World.alloc (World.alloc (World.alloc w _) _) _) _) _=W;obtain ⟨b0,b1,b2,b3,b4,hb⟩:=boxes5_ hW;clear hW;refine HK.out _ _ _ _ _ ?_ ?_ ?_ ?_ ?_ ?_ ?_
    · first | exact b1 | exact b2 | exact b3 | exact b4
    · first | exact b1 | exact b2 | exact b3 | exact b4
    · first | exact b1 | exact b2 | exact b3 | exact b4
    · first | exact b1 | exact b2 | exact b3 | exact b4
    · exact b0
    · clear b0 b1 b2 b3 b4;omega
    · exact hb.drew
def ToldMkr (f:FunD) (w:World) (e:Ending) (w':World):Prop :=
  (∃ G,e=.returned (.slice (some ⟨G,0,none⟩) f.regs.length f.regs.length)∧w.heap.size≤G∧w'.rowIs G 90 (2 * f.regs.length) (mkF (evL f)))∧Below w.heap.size w w'
set_option maxRecDepth 100000 in
set_option maxHeartbeats 8000000 in
theorem makers_any (f:FunD) (vf:Value) (w:World) (hf:VFun w vf f) (hn:f.regs.length≤300) (hG:OfNone w):Calls Tryz.prog 78 #[vf] w (ToldMkr f w):=by
  have hf0:=hf;obtain ⟨Ar,cr,Ab,cb,rfl,hr0,hb0,hp0,-⟩:=hf;have HVF:=Lib.hid hf0;have HG:=Lib.hid hG;have hmk:=run_make_row' (P:=Tryz.prog) 64 4 (.bool false) 1 Tryz.underlying64 Tryz.info4 rfl .i64 .i64 f.regs.length (by omega) (by omega);have HMK:=Lib.hid hmk;clear hf0 hr0 hb0 hp0 hG hmk;(go_enter Tryz.func78,Tryz.ntmps78);go_upto_region 1 with fail
  obtain ⟨w1,hw1,hs1,hk1,hbel1,hc1,-⟩:=named w #[.int .i64 f.params,.int .i64 f.result,.slice Ar f.regs.length cr,.slice Ab f.blocks.length cb] 30;rw [← hw1];obtain ⟨N,hN⟩:∃ N,N=w.heap.size:=⟨_,rfl⟩;rw [← hN] at hc1 ⊢;have f0:=hc1 0 _ rfl;have f1:=hc1 1 _ rfl;have f2:=hc1 2 _ rfl;have f3:=hc1 3 _ rfl;obtain ⟨z0,z1⟩:=HG.out.keep hk1
  have HB1:=Lib.hid hbel1;have HN:=Lib.hid hN;(have hNw:N<w1.heap.size:=by omega);have f2:w1.cell? ⟨N,2,none⟩=some (.slice Ar f.regs.length cr):=f2;obtain ⟨w2,hw2⟩:∃ w2,w2=w1.alloc (.cells #[.int .i64 (-1),.int .i64 (-2)] 90):=⟨_,rfl⟩;(have hbel2:Below w1.heap.size w1 w2:=by rw [hw2];exact (Below.refl _ _).alloc (Nat.le_refl _) _);have hk2:=q6 hbel2;(have f2':(w1.alloc (.cells #[.int .i64 (-1),.int .i64 (-2)] 90)).cell? ⟨N,2,none⟩=some (.slice Ar f.regs.length cr):=by rw [← hw2];exact hk2 _ _ f2);have b2:w2.heap[w1.heap.size]?=some (.cells #[.int .i64 (-1),.int .i64 (-2)] 90):=by rw [hw2];exact heap_alloc_new _ _
  have HRP:=Lib.hid (repeatMk_any f.regs.length w1.heap.size 1 (-1) (-2) w2 (q7 b2 0) (q7 b2 1) (by omega));rw [hw2] at HRP;clear hw1 hs1 hk1 hbel1 hc1 hN;(go_wp2_with fail);rw [← hw2] at HRP ⊢;refine HRP.out.mono ?_;rintro e w3 ⟨⟨GR,rfl,hGR,hrow⟩,hb3⟩;have hb13:Below w1.heap.size w1 w3:=hbel2.trans (hb3.mono hbel2.size);have hNw1:=hNw
  have HR:=Lib.hid hrow;(have HGR:Hid (w1.heap.size≤GR):=Lib.hid (by have:=hbel2.size;omega));have hk3:=q6 hb13;have f0:=hk3 _ _ f0;have f1:=hk3 _ _ f1;have f2:=hk3 _ _ f2;have f3:=hk3 _ _ f3;have HB3:Hid (Below w.heap.size w w3):=Lib.hid (HB1.out.trans (hb13.mono HB1.out.size));have HNW:Hid (N<w1.heap.size):=Lib.hid hNw
  clear hw2 hbel2 hk2 f2' b2 HRP hb3 hGR hrow hb13 hNw1 hNw hk3 z0 z1;(go_upto_region 2 with fail);obtain ⟨w4,hw4,hs4,hk4,hbel4,hc4,-⟩:=named w3 #[.slice (some ⟨GR,0,none⟩) f.regs.length f.regs.length] 131;rw [← hw4];obtain ⟨BR,hBR⟩:∃ BR,BR=w3.heap.size:=⟨_,rfl⟩;rw [← hBR] at hc4 ⊢;have hmk:=HMK.out;have f0:=hk4 _ _ f0;have f1:=hk4 _ _ f1
  have f2:=hk4 _ _ f2;have f3:=hk4 _ _ f3;(have bR:w4.heap[BR]?=some (.cells #[.slice (some ⟨GR,0,none⟩) f.regs.length f.regs.length] 131):=by rw [hw4,hBR];exact heap_alloc_new _ _);have HBR:=Lib.hid bR;(have HX4:Hid (GR<BR∧BR<w4.heap.size):=Lib.hid ⟨by rw [hBR];exact HR.out.lt,by omega⟩);have HR4:Hid (w4.rowIs GR 90 (2 * f.regs.length) (mkC (-1) (-2))):=Lib.hid (HR.out.of_block (hbel4.block _ HR.out.lt));have HB4:Hid (Below w.heap.size w w4):=Lib.hid (HB3.out.trans (hbel4.mono HB3.out.size));clear hw4 hs4 hk4 hbel4 hc4 hBR bR HR;go_upto_region 3 with fail
  obtain ⟨w6,hw6⟩:∃ w6,w6=(w4.alloc (.cells (madeCells #[.bool false] f.regs.length) 4)).alloc (.cells #[.slice (some ⟨w4.heap.size,0,none⟩) f.regs.length f.regs.length] 64):=⟨_,rfl⟩;obtain ⟨GM,hGM⟩:∃ GM,GM=w4.heap.size:=⟨_,rfl⟩;obtain ⟨bM,bB,hsz6,hbel6⟩:=boxes2_ w4 GM hGM _ _ w6 hw6;rw [← hw6,← hGM];rw [hGM] at hbel6;rw [← hGM] at bB;have hk6:=q6 hbel6;have f0:=hk6 _ _ f0;have f1:=hk6 _ _ f1
  have f2:=hk6 _ _ f2;have f3:=hk6 _ _ f3;have hx4:=HX4.out
  have hP:MkP f.regs.length GM GR (GM+1) BR [] w6:=⟨⟨_,bM,size_madeCells _ _,fun i hi=>by simp [madeCells,hi,Nat.mod_one,cntM]⟩,
    (HR4.out.of_block (hbel6.block _ HR4.out.lt)).congr fun j _=>by unfold mkF mkC fstM;rfl,bB,(hbel6.block _ hx4.2).trans HBR.out⟩
  have hR6:=HR4.out.lt;have HV:Hid (Vis (MkP f.regs.length GM GR (GM+1) BR) (fun b=>b=GM∨b=GR) f.regs.length 118 (.pointer (some ⟨GM+1,0,none⟩)) (.pointer (some ⟨BR,0,none⟩)) w6):=Lib.hid
    ⟨call_enter Tryz.func118 (by kernel_rfl) rfl,fun b hb=>by rcases hb with rfl | rfl <;> omega,fun l u u' h h2=>h.below h2,fun l e u hp hx h0 h1=>maker_step e hp (by omega) (by omega) (by omega) (by omega) (by omega) h0 h1 (by omega)⟩
  have hBW:Below w.heap.size w w6:=HB4.out.trans (hbel6.mono HB4.out.size);(have hKW:∀ w',FrX (fun b=>b=GM∨b=GR) w6 w'→Below w.heap.size w w':=fun w' h=>hBW.trans (h.below hBW.size (fun k hk=>by have:=HNW.out;have:=HN.out;have:=HGR.out;have:=HB1.out.size;rcases hk with rfl | rfl <;> omega)));have HEM:=Lib.hid (eachMade_any f _ w w6 HV.out HVF.out (fun w' h=>q6 (hKW w' h)) (fun w' h=>HG.out.keep (q6 (hKW w' h))) hP);have HKW:=Lib.hid hKW;clear hw6 hGM bM bB hsz6 hbel6 hk6 hx4 hP hR6 hBW hKW hmk;(go_wp2_with fail);refine HEM.out.mono ?_;rintro e w7 ⟨rfl,hp7,hx7⟩;have b1:=q7 hp7.br 0
  have HP7:=Lib.hid hp7;have HX7:=Lib.hid (HKW.out _ hx7);clear hp7 hx7 f0 f1 f2 f3;(go_wp2_with fail);(go_ret);exact ⟨⟨GR,rfl,by have:=HGR.out;have:=HB1.out.size;omega,HP7.out.r⟩,HX7.out⟩
end Go.Proofs.YtfoggldjjnabcaaGreatDoor
