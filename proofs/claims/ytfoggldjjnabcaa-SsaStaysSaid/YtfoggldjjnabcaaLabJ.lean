/- Trim's smaller functions: a phi's Args, an end. -/
import Derived.Test.YtfoggldjjnabcaaGrYJ
import Derived.Test.YtfoggldjjnabcaaGrNmJ
import Derived.StillTailTactics
import Derived.Laws.ResultCell
namespace Go.Proofs.Ytfoggldjjnabcaa
open Go.ChangeShapes Go.WideShapes Go.RowKit Go.Deep
set_option linter.unusedVariables false
set_option maxRecDepth 100000 in
set_option maxHeartbeats 4000000 in
theorem argsOf_any (H n:Nat) (r:Nat→Bool) (args ahead:List Int) (va vh:Value) (w:World) (hrow:w.rowIs H 4 n (fun x=>.bool (r x))) (ha:VS w 1 RInt va args) (hh:VS w 1 RInt vh ahead)
    (hin:∀ a∈ahead,0≤a∧a<n) (hn:args.length≤1000000) :
    Calls Try.prog 45 #[va,vh,.slice (some ⟨H,0,none⟩) n n] w (ToldC_ (argsT r ahead args) w):=by
  have ha0:=ha;obtain ⟨A,c,rfl,hsa⟩:=ha;obtain ⟨B,d,rfl,hsh⟩:=hh;have hal:=hsa.len;have hhl:=hsh.len;obtain ⟨i0,hi,hz0,hz1,hz2⟩:=info_parts Try.info3;have HI:=Lib.hid (And.intro hi (And.intro hz0 (And.intro hz1 hz2)));clear hi hz0 hz1 hz2
  by_cases hl:args.length=ahead.length
  · (have hne:((args.length:Int) != ahead.length)=false:=by simp [hl]);have HL:=Lib.hid hl;have HIN:=Lib.hid hin;(have HRES:Hid (argsT r ahead args=keepA r ahead args):=Lib.hid (by unfold argsT;rw [if_pos hl]));have hi64:∀ x∈args,I64 x:=fun x hx=>by
      obtain ⟨i,hi⟩:=List.getElem?_of_mem hx;obtain ⟨_,_,h3⟩:=hsa;(obtain ⟨b,o,e,hr⟩:=h3 (by have:=(List.getElem?_eq_some_iff.1 hi).1;omega));exact (hr i x hi).2
    clear hl hin hi64 ha0;(go_enter Try.func45,Try.ntmps45);go_wp2_with fail
    go_loopw [7,19] (fun out i wr=>∃ k:Nat,k≤args.length∧i=.int .i64 k∧Below w.heap.size w wr∧wr.ownsRow w.heap.size 3 1 out (keepA r (ahead.take k) (args.take k)).length ((keepA r (ahead.take k) (args.take k)).map (Value.int .i64))) (fun _ i _=>args.length - (intOf i).toNat)
    case atStart=>exact ⟨0,Nat.zero_le _,rfl,Below.refl _ _,by simpa [keepA] using World.ownsRow_nil _ _ _ _⟩
    case round =>
      obtain ⟨k,hk,rfl,hb,hown⟩:=hrel;have hkr:=q6 hb;have hz:=hb.size;have HB:=Lib.hid hb;have HOW:=Lib.hid hown
      by_cases hlt:k<args.length
      · obtain ⟨b1,o1,x,rfl,hx,hxc,-⟩:=(SInts.keep hkr hsa).int hlt;(obtain ⟨b2,o2,y,rfl,hy,hyc,-⟩:=(SInts.keep hkr hsh).int (k:=k) (by have:=HL.out;omega));obtain ⟨hy0,hy1⟩:=HIN.out y (List.mem_of_getElem? hy.out);obtain ⟨q,rfl⟩:∃ q:Nat,y=q:=⟨y.toNat,by omega⟩;(have hqn:q<n:=by omega);have hrc:=(hrow.of_block (hb.block H hrow.lt)).cell hqn;(have hk0:(0:Int)≤k:=by omega);(have hk1:(k:Int)<args.length:=by omega);have hk2:(k:Int)<ahead.length:=by have:=HL.out;omega
        have HSN:=Lib.hid (keepA_snoc (r:=r) hy.out hx.out);(have hlk:(keepA r (ahead.take k) (args.take k)).length≤1000000:=by have:=keepA_len r (ahead.take k) (args.take k);simp at this;omega);clear hb hown hkr;cases hrq:r q
        · rw [hrq] at hrc;(have HS2:Hid (keepA r (ahead.take (k+1)) (args.take (k+1))=keepA r (ahead.take k) (args.take k)):=Lib.hid (by rw [HSN.out,Int.toNat_natCast,hrq];simp));clear hrq;go_wp2_with fail
          go_roundw
          case rel=>exact ⟨k+1,by omega,by go_num,HB.out,by rw [HS2.out];exact HOW.out⟩
          case measure=>simp [intOf];omega
        · rw [hrq] at hrc;(have HS2:Hid (keepA r (ahead.take (k+1)) (args.take (k+1))=keepA r (ahead.take k) (args.take k)++[x]):=Lib.hid (by rw [HSN.out,Int.toNat_natCast,hrq];simp));clear hrq;generalize keepA r (ahead.take k) (args.take k)=acc at *;go_wp2_with (at_builtin;refine wpList_append_lies _ rfl (.tmp 31) (.tmp 33) 28 rfl w.heap.size 3 i0 (.int .i64 0) 1 8 Try.underlying28 HI.out.1 HI.out.2.1 HI.out.2.2.1 HI.out.2.2.2 rfl (by decide) _ _ _ rfl (HOW.out.alloc _) ⟨wr.heap.size,0,none⟩ 1 1 [.int .i64 x] rfl rfl ?c1 ?c2 ?c0 ?c3 ?c4 ?c5 (wr.heap.size+1) ?c6 ?_)
          case c1=>exact qR wr _ _ rfl
          case c2=>exact ints_oneCell .i64 [x]
          case c0=>omega
          case c3=>unfold maxLen;omega
          case c4=>omega
          case c5=>simp;omega
          case c6=>simp
          intro g cap w4 hown4 hgrow4 hloc4 hlt4;(have HB4:Hid (Below w.heap.size w w4):=Lib.hid ((HB.out.alloc hz _).grown hgrow4 (by simp;omega) (fun g hg=>(HOW.out.lt g hg).1)));(have HO4:Hid (w4.ownsRow w.heap.size 3 1 (.slice (some ⟨g,0,none⟩) (acc.length+1) cap) (keepA r (ahead.take (k+1)) (args.take (k+1))).length ((keepA r (ahead.take (k+1)) (args.take (k+1))).map (Value.int .i64))):=Lib.hid (by rw [HS2.out,List.map_append,List.length_append];exact hown4));clear hown4 hgrow4 hloc4;go_wp2_with fail
          go_roundw
          case rel=>exact ⟨k+1,by omega,by go_num,HB4.out,HO4.out⟩
          case measure=>simp [intOf];omega
      · (have HF:Hid (keepA r (ahead.take k) (args.take k)=argsT r ahead args):=Lib.hid (by rw [HRES.out,List.take_of_length_le (by have:=HL.out;omega),List.take_of_length_le (by omega)]));clear hb hown hkr;(go_wp2_with fail);(go_ret);exact ⟨⟨_,rfl,by rw [← HF.out];exact HOW.out⟩,HB.out⟩
  · (have hne:((args.length:Int) != ahead.length)=true:=by simp;omega);(have HRES:Hid (argsT r ahead args=args):=Lib.hid (by unfold argsT;rw [if_neg hl]));have HC:=Lib.hid (qt args _ w ha0 hn);clear hl ha0;(go_enter Try.func45,Try.ntmps45);(go_wp2_with fail);refine HC.out.mono ?_;rintro e w1 ⟨⟨v,rfl,ho⟩,hb⟩;have HF:=Lib.hid (And.intro ho hb)
    clear ho hb;(go_wp2_with fail);(go_ret);exact ⟨⟨_,rfl,by rw [HRES.out];exact HF.out.1⟩,HF.out.2⟩
def uptoL (g:Int→Int) (l:List Int) (k:Nat):List Int:=(l.take k).map g++l.drop k
theorem uptoL_zero (g:Int→Int) (l:List Int):uptoL g l 0=l:=by simp [uptoL]
theorem uptoL_all {g:Int→Int} {l:List Int} {k:Nat} (h:l.length≤k):uptoL g l k=l.map g:=by unfold uptoL;rw [List.take_of_length_le h,List.drop_eq_nil_of_le h];simp
theorem uptoL_len (g:Int→Int) (l:List Int) (k:Nat):(uptoL g l k).length=l.length:=by unfold uptoL;simp;omega
theorem uptoL_at {g:Int→Int} {l:List Int} {k:Nat} {x:Int} (h:l[k]?=some x):(uptoL g l k)[k]?=some x:=by
  have hk:k<l.length:=(List.getElem?_eq_some_iff.1 h).1;unfold uptoL;(rw [List.getElem?_append_right (by simp;omega)]);simp only [List.length_map,List.length_take,List.getElem?_drop];rw [show k+(k - min k l.length)=k by omega];exact h
theorem uptoL_set {g:Int→Int} {l:List Int} {k:Nat} {x:Int} (h:l[k]?=some x):(uptoL g l k).set k (g x)=uptoL g l (k+1):=by
  have hk:k<l.length:=(List.getElem?_eq_some_iff.1 h).1;unfold uptoL;(rw [qC h,List.map_append,List.append_assoc,List.set_append_right _ _ (by simp;omega)]);(congr 1);obtain ⟨_,rfl⟩:=List.getElem?_eq_some_iff.1 h;(have e:(l.drop k).set 0 (g l[k])=g l[k]::l.drop (k+1):=by rw [List.drop_eq_getElem_cons hk];rfl);rw [show k - ((l.take k).map g).length=0 by simp;omega,e];rfl
theorem uptoL_same {g:Int→Int} {l:List Int} {k:Nat} {x:Int} (h:l[k]?=some x) (hg:g x=x):uptoL g l k=uptoL g l (k+1):=by
  rw [← uptoL_set h,hg];apply List.ext_getElem?;intro i;rw [List.getElem?_set]
  split
  · rename_i e;subst e;rw [uptoL_at h,if_pos (by rw [uptoL_len];exact (List.getElem?_eq_some_iff.1 h).1)]
  · rfl
theorem own_int {w:World} {base n cap g:Nat} {l:List Int} {i:Nat} {x:Int} (h:w.ownsRow base 3 1 (.slice (some ⟨g,0,none⟩) n cap) n (l.map (Value.int .i64))) (hi:l[i]?=some x):w.cell? ⟨g,i,none⟩=some (.int .i64 x):=by
  have:=h.cells (g:=g) rfl i (.int .i64 x) (by rw [List.getElem?_map,hi];rfl)
  rwa [show (⟨g,0,none⟩:Addr).add i=⟨g,i,none⟩ by unfold Addr.add;split <;> simp_all] at this
def ToldT_ (r:Nat→Bool) (n:Nat) (t:TermD) (w:World) (e:Ending) (w':World):Prop :=
  (∃ v,e=.returned (.agg #[.int .i64 t.kind,.int .i64 t.arg,v])∧w'.ownsRow w.heap.size 3 1 v t.to.length ((t.to.map (toT r n)).map (Value.int .i64)))∧Below w.heap.size w w'
set_option maxRecDepth 100000 in
set_option maxHeartbeats 4000000 in
theorem termOf_any (G n:Nat) (r:Nat→Bool) (t:TermD) (v:Value) (w:World) (hrow:w.rowIs G 3 n (fun i=>.int .i64 (numB r i))) (hv:VTerm w v t) (hn:n≤1000000) (hl:t.to.length≤1000000) :
    Calls Try.prog 29 #[v,.slice (some ⟨G,0,none⟩) n n] w (ToldT_ r n t w):=by
  obtain ⟨A,c,rfl,hs,hk64,ha64⟩:=hv;have HK:=Lib.hid hk64;have HA:=Lib.hid ha64;clear hk64 ha64;(go_enter Try.func29,Try.ntmps29);(go_upto_region 1 with fail);obtain ⟨w1,hw1,hs1,hk1,hb1,hc1,hf1⟩:=named w #[.int .i64 t.kind,.int .i64 t.arg,.slice A t.to.length c] 39;obtain ⟨w2,hw2,hs2,hk2,hb2,hc2,hf2⟩:=named w1 #[.int .i64 0,.int .i64 0,.slice none 0 0] 39;have hbx:w2.heap[w.heap.size]?=some (.cells #[.int .i64 t.kind,.int .i64 t.arg,.slice A t.to.length c] 39 (0,0)):=by rw [hw2,hw1];exact row_new2 w _ _
  (have hby:w2.heap[w.heap.size+1]?=some (.cells #[.int .i64 0,.int .i64 0,.slice none 0 0] 39 (0,0)):=by rw [hw2,hw1];exact row_new3 w _ _);rw [← hw1,← hw2];have HB2:Hid (Below w.heap.size w w2):=Lib.hid (hb1.trans (hb2.mono (by omega)));(have hz2:w2.heap.size=w.heap.size+2:=by omega);have HC:=Lib.hid (qt t.to _ w2 ⟨A,c,rfl,SInts.keep (hk1.trans hk2) hs⟩ hl);obtain ⟨N,hN⟩:∃ N,N=w.heap.size:=⟨_,rfl⟩;rw [← hN] at hbx hby hz2 ⊢;(have hGN:G<N:=by rw [hN];exact hrow.lt);have HR2:=Lib.hid (hrow.of_block (HB2.out.block G hrow.lt))
  have HN:=Lib.hid hN;have x2:=q5 hbx 2;clear hw1 hw2 hs1 hs2 hk1 hk2 hb1 hb2 hc1 hc2 hf1 hf2 hs hrow hN;(go_wp2_with fail);refine HC.out.mono ?_;rintro e w3 ⟨⟨vc,rfl,ho⟩,hb3⟩;have hvc:∃ A' c',vc=.slice A' t.to.length c':=by
    rcases ho.2 with ⟨e,h0⟩ | ⟨g,c',cur,e,_⟩
    · exact ⟨none,0,by rw [e,h0]⟩
    · exact ⟨_,_,e⟩
  obtain ⟨A',c',rfl⟩:=hvc;have hz3:=hb3.size;have hbx3:=(hb3.block N (by omega)).trans hbx;have hby3:=(hb3.block (N+1) (by omega)).trans hby;have hbx4:=qG (i:=2) (.slice A' t.to.length c') hbx3;(have hby4:=(Below.heap_setCell w3 ⟨N,2,none⟩ (.slice A' t.to.length c') (N+1) (by show N+1≠N;omega)).trans hby3);(have ho4:=qD (w':=w3.setCell ⟨N,2,none⟩ (.slice A' t.to.length c')) ho (fun g hg=>Below.heap_setCell _ _ _ _ (by have:=(ho.lt g hg).1;show g≠N;omega)));(have HR4:Hid ((w3.setCell ⟨N,2,none⟩ (.slice A' t.to.length c')).rowIs G 3 n (fun i=>.int .i64 (numB r i))):=Lib.hid ((HR2.out.of_block (hb3.block G (by omega))).setOther (by show G≠N;omega) _));have HB4:Hid (Below w.heap.size w (w3.setCell ⟨N,2,none⟩ (.slice A' t.to.length c'))):=Lib.hid ((HB2.out.trans (hb3.mono HB2.out.size)).setCell (by show w.heap.size≤N;have:=HN.out;omega) _)
  (have hz4:w2.heap.size≤(w3.setCell ⟨N,2,none⟩ (.slice A' t.to.length c')).heap.size:=by simpa using hz3);have y2:=q5 hbx3 2;have yf2:=q8 hbx3 2;clear x2 ho hb3 HC hbx hby;(go_upto_region 2 with fail);clear y2 yf2;generalize w3.setCell ⟨N,2,none⟩ (.slice A' t.to.length c')=w4 at *;have hx2:w4.cell? ⟨N,2,none⟩=some (.slice A' t.to.length c'):=q5 hbx4 2;have HO4:Hid (w4.ownsRow w2.heap.size 3 1 (.slice A' t.to.length c') t.to.length ((uptoL (toT r n) t.to 0).map (Value.int .i64))):=Lib.hid (by rw [uptoL_zero];exact ho4)
  have HBX:=Lib.hid hbx4;have HBY:=Lib.hid hby4;clear hbx4 hby4 hbx3 hby3 ho4 hz3;go_wp2_with fail
  go_loopw [14] (fun i wr=>∃ k:Nat,k≤t.to.length∧i=.int .i64 k∧Below w2.heap.size w4 wr∧wr.ownsRow w2.heap.size 3 1 (.slice A' t.to.length c') t.to.length ((uptoL (toT r n) t.to k).map (Value.int .i64))) (fun i _=>t.to.length - (intOf i).toNat)
  case atStart=>exact ⟨0,Nat.zero_le _,rfl,Below.refl _ _,HO4.out⟩
  case round =>
    obtain ⟨k,hk,rfl,hbr,hor⟩:=hrel;have HBR:=Lib.hid hbr;have HOR:=Lib.hid hor;have hbxr:=(hbr.block N (by omega)).trans HBX.out;have z2:wr.cell? ⟨N,2,none⟩=some (.slice A' t.to.length c'):=q5 hbxr 2
    by_cases hlt:k<t.to.length
    · obtain ⟨g,cap,hform,hg1,hg2⟩:=hor.form (by omega);cases hform;obtain ⟨x,hx⟩:∃ x,t.to[k]?=some x:=⟨_,List.getElem?_eq_getElem hlt⟩;have hxc:=own_int hor (uptoL_at (g:=toT r n) hx);have hxf:=hor.frozenAt k;(have hk0:(0:Int)≤k:=by omega);(have hk1:(k:Int)<t.to.length:=by omega);have HX:=Lib.hid hx;clear hbr hbxr hx hor
      by_cases hin:0≤x∧x<n
      · obtain ⟨q,rfl⟩:∃ q:Nat,x=q:=⟨x.toNat,by omega⟩;(have hqn:q<n:=by omega);(have hq0:(0:Int)≤q:=by omega);(have hq1:(q:Int)<n:=by omega);(have HT:Hid (numB r q=toT r n q):=Lib.hid (by unfold toT;rw [if_pos hin];simp));have hrc:=(HR4.out.of_block (HBR.out.block G (by omega))).cell hqn;have hst:=(HOR.out.stored k (.int .i64 (numB r q))).1
        have HST:Hid ((wr.setCell ⟨g,k,none⟩ (.int .i64 (numB r q))).ownsRow w2.heap.size 3 1 (.slice (some ⟨g,0,none⟩) t.to.length c') t.to.length ((uptoL (toT r n) t.to (k+1)).map (Value.int .i64))):=Lib.hid (by
          rw [← uptoL_set HX.out,← HT.out,List.map_set];exact hst)
        (have HBS:Hid (Below w2.heap.size w4 (wr.setCell ⟨g,k,none⟩ (.int .i64 (numB r q)))):=Lib.hid (HBR.out.setCell (by show w2.heap.size≤g;exact hg1) _));clear hst hin;generalize hy:numB r q=y at *;(go_upto_region 6 with fail);(go_still_tail 8,(by kernel_rfl));change wpList _ _ _ _ _ wr.drew;go_wp2_with fail
        go_roundw
        case rel=>exact ⟨k+1,by omega,by go_num,HBS.out.drew,ownsRow_drew HST.out⟩
        case measure=>simp [intOf];omega
      · have HT:Hid (uptoL (toT r n) t.to k=uptoL (toT r n) t.to (k+1)):=Lib.hid (uptoL_same HX.out (by unfold toT;rw [if_neg hin]))
        by_cases h0:0≤x
        · have h1:decide (x<(n:Int))=false:=decide_eq_false (by omega);clear hin;go_wp2_with fail
          go_roundw
          case rel=>exact ⟨k+1,by omega,by go_num,HBR.out,by rw [← HT.out];exact HOR.out⟩
          case measure=>simp [intOf];omega
        · clear hin;go_wp2_with fail
          go_roundw
          case rel=>exact ⟨k+1,by omega,by go_num,HBR.out,by rw [← HT.out];exact HOR.out⟩
          case measure=>simp [intOf];omega
    · have HFIN:Hid (uptoL (toT r n) t.to k=t.to.map (toT r n)):=Lib.hid (uptoL_all (by omega));have z0:wr.cell? ⟨N,0,none⟩=some (.int .i64 t.kind):=q5 hbxr 0;have z1:wr.cell? ⟨N,1,none⟩=some (.int .i64 t.arg):=q5 hbxr 1;have hbyr:=(hbr.block (N+1) (by omega)).trans HBY.out;have u0:=q5 hbyr 0;have u1:=q5 hbyr 1;have u2:=q5 hbyr 2;have v0:=q8 hbyr 0;have v1:=q8 hbyr 1
      have v2:=q8 hbyr 2;have HBYR:=Lib.hid hbyr;clear hbxr hbyr hbr hor;have hfin:=qG (i:=2) (.slice A' t.to.length c') (qG (i:=1) (.int .i64 t.arg) (qG (i:=0) (.int .i64 t.kind) HBYR.out));have hoth:∀ y,y≠N+1→(((wr.setCell ⟨N+1,0,none⟩ (.int .i64 t.kind)).setCell ⟨N+1,1,none⟩ (.int .i64 t.arg)).setCell ⟨N+1,2,none⟩ (.slice A' t.to.length c')).heap[y]?=wr.heap[y]?:=fun y hy =>
        (Below.heap_setCell _ _ _ _ hy).trans ((Below.heap_setCell _ _ _ _ hy).trans (Below.heap_setCell _ _ _ _ hy))
      have HOF:=Lib.hid (own_base (qD HOR.out (fun g hg=>hoth g (by have:=(HOR.out.lt g hg).1;omega))) (base':=w.heap.size) (by have:=HN.out;omega))
      have HBF:Hid (Below w.heap.size w (((wr.setCell ⟨N+1,0,none⟩ (.int .i64 t.kind)).setCell ⟨N+1,1,none⟩ (.int .i64 t.arg)).setCell ⟨N+1,2,none⟩ (.slice A' t.to.length c'))):=Lib.hid (by
        have hNw:=HN.out
        exact (((HB4.out.trans (HBR.out.mono (by omega))).setCell (by show w.heap.size≤N+1;omega) _).setCell (by show w.heap.size≤N+1;omega) _).setCell (by show w.heap.size≤N+1;omega) _)
      have HFIN2:=Lib.hid hfin;clear hfin hoth;(go_wp2_with fail);refine bodyPost_ret (results_cell_row rfl _ _ (N+1) 39 #[.int .i64 t.kind,.int .i64 t.arg,.slice A' t.to.length c'] (0,0) _ (by rfl) HFIN2.out Try.underlying39 (by rfl) (by kernel_rfl)) rfl ?_;exact ⟨⟨_,rfl,by rw [← HFIN.out];exact HOF.out⟩,HBF.out⟩
def Fz (w:World) (b:Nat):Prop:=∃ cs t,w.heap[b]?=some (.cells cs t (0,0))
theorem Fz.lt {w:World} {b:Nat} (h:Fz w b):b<w.heap.size:=by obtain ⟨_,_,h⟩:=h;exact qW h
theorem Fz.same {w w':World} {b:Nat} (h:Fz w b) (e:w'.heap[b]?=w.heap[b]?):Fz w' b:=by obtain ⟨cs,t,h⟩:=h;exact ⟨cs,t,e.trans h⟩
theorem Fz.free {w:World} {b:Nat} (h:Fz w b) (o:Nat):w.frozen? ⟨b,o,none⟩=false:=by obtain ⟨_,_,h⟩:=h;exact q8 h o
theorem Fz.set {w:World} {b:Nat} (h:Fz w b) (g i:Nat) (v:Value):Fz (w.setCell ⟨g,i,none⟩ v) b:=by
  obtain ⟨cs,t,h⟩:=h
  by_cases e:b=g
  · subst e;exact ⟨_,t,qG v h⟩
  · exact ⟨cs,t,(Below.heap_setCell _ _ _ _ e).trans h⟩
theorem Fz.own {w:World} {base n size g:Nat} {e:TypeId} {v:Value} {xs:List Value} (h:w.ownsRow base e size v n xs) (hg:v.ownBlock=some g):Fz w g:=by
  rcases h.2 with ⟨rfl,_⟩ | ⟨g',cap,cur,rfl,_,hh,_⟩
  · cases hg
  · obtain rfl:g'=g:=Option.some.inj hg;exact ⟨_,_,hh⟩
def BG (base:Nat) (w:World) (b:Nat):Prop:=base≤b∧Fz w b
def BF (base:Nat) (u:Value) (w:World) (b:Nat):Prop:=BG base w b∧some b≠u.ownBlock
theorem BG.below {base base':Nat} {w w':World} (h:Below w.heap.size w w') (hb:base'≤base) (b:Nat) (hB:BG base w b):BG base' w' b:=⟨Nat.le_trans hb hB.1,hB.2.same (h.block b hB.2.lt)⟩
theorem keptBG {base:Nat} {w w':World} (h:Below w.heap.size w w'):KeptB (BG base w) w w':=fun a v hb ha=>(World.cell?_of_block (h.block a.block hb.2.lt)).trans ha
theorem slG_of_own {w:World} {base base':Nat} {v:Value} {xs:List Int} (h:w.ownsRow base 3 1 v xs.length (xs.map (Value.int .i64))) (hx:∀ x∈xs,I64 x) (hb:base'≤base) :
    ∃ A c,v=.slice A xs.length c∧SL w 1 (RIntB (BG base' w)) A c xs:=by
  obtain ⟨A,c,e,hs⟩:=qV h hx;obtain ⟨h1,h2,h3⟩:=hs;refine ⟨A,c,e,h1,h2,fun hp=>?_⟩;obtain ⟨b,o,e2,hr⟩:=h3 hp;(have hg:v.ownBlock=some b:=by rw [e,e2];rfl);exact ⟨b,o,e2,fun i x hi=>⟨⟨Nat.le_trans hb (h.lt b hg).1,Fz.own h hg⟩,hr i x hi⟩⟩
theorem rows_grow {α:Type} {sz base:Nat} {F:(Nat→Prop)→World→α→List Value→Prop} (Fgo:∀ (B B':Nat→Prop) (w w':World) (x:α) (cs:List Value),KeptB B w w'→(∀ b,B b→B' b)→F B w x cs→F B' w' x cs)
    {w wN:World} {u u':Value} {l:List α} {cs:List Value} (h:Rows sz (F (BF base u w) w) l cs) (hk:∀ b,b<w.heap.size→some b≠u.ownBlock→wN.heap[b]?=w.heap[b]?)
    (hu:u'.ownBlock=u.ownBlock∨∀ g,u'.ownBlock=some g→w.heap.size≤g) {x:α} {c:List Value} (hc:c.length=sz) (hx:F (BF base u' wN) wN x c):Rows sz (F (BF base u' wN) wN) (l++[x]) (cs++c) :=
  Rows.snoc hx hc (h.imp fun y d hy=>Fgo _ _ _ _ y d (fun a v hb ha=>(World.cell?_of_block (hk a.block hb.1.2.lt hb.2)).trans ha) (fun b hb=>⟨⟨hb.1.1,hb.1.2.same (hk b hb.1.2.lt hb.2)⟩,fun e=>by
    rcases hu with h | h
    · exact hb.2 (e.trans h)
    · have:=h b e.symm;have:=hb.1.2.lt;omega⟩) hy)
theorem phis_lt {w:World} {A:Option Addr} {c:Nat} {xs:List PhiD} (h:SL w 2 RPhi A c xs):∀ x∈xs,I64 x.dst∧∀ y∈x.args,I64 y:=fun x hx=>by
  obtain ⟨i,hi⟩:=List.getElem?_of_mem hx;obtain ⟨_,_,h3⟩:=h;(obtain ⟨b,o,e,hr⟩:=h3 (by have:=(List.getElem?_eq_some_iff.1 hi).1;omega));obtain ⟨hd,A',c',-,hs⟩:=hr i x hi;refine ⟨hd.2,fun y hy=>?_⟩;obtain ⟨j,hj⟩:=List.getElem?_of_mem hy;obtain ⟨_,_,h4⟩:=hs;(obtain ⟨b',o',e',hr'⟩:=h4 (by have:=(List.getElem?_eq_some_iff.1 hj).1;omega));exact (hr' j y hj).2
theorem argsT_len (r:Nat→Bool) (ahead args:List Int):(argsT r ahead args).length≤args.length:=by
  unfold argsT;split
  · exact keepA_len _ _ _
  · exact Nat.le_refl _
theorem cphi_go:∀ (B B':Nat→Prop) (w w':World) (x:PhiD) (cs:List Value),KeptB B w w'→(∀ b,B b→B' b)→CPhi B w x cs→CPhi B' w' x cs:=fun _ _ _ _ _ _ h1 h2 h3=>CPhi.go h1 h2 h3
def ToldP_ (r:Nat→Bool) (ahead:List Int) (phis:List PhiD) (w:World) (e:Ending) (w':World):Prop :=
  (∃ A c,e=.returned (.slice A (phis.map (phiT r ahead)).length c)∧SL w' 2 (RPhiB (BG w.heap.size w')) A c (phis.map (phiT r ahead)))∧Below w.heap.size w w'
set_option maxRecDepth 100000 in
set_option maxHeartbeats 8000000 in
theorem phisOf_any (H n:Nat) (r:Nat→Bool) (phis:List PhiD) (ahead:List Int) (vp vh:Value) (w:World) (hrow:w.rowIs H 4 n (fun x=>.bool (r x))) (hp:VS w 2 RPhi vp phis) (hh:VS w 1 RInt vh ahead)
    (hin:∀ a∈ahead,0≤a∧a<n) (hn:phis.length≤1000) (ha:∀ p∈phis,p.args.length≤1000) :
    Calls Try.prog 27 #[vp,vh,.slice (some ⟨H,0,none⟩) n n] w (ToldP_ r ahead phis w):=by
  obtain ⟨A,c,rfl,hs⟩:=hp;have hh0:=hh;obtain ⟨Ah,ch,rfl,-⟩:=hh;have hsl:=hs.len;obtain ⟨i0,hi,hz0,hz1,hz2⟩:=info_parts Try.info52;have HI:=Lib.hid (And.intro hi (And.intro hz0 (And.intro hz1 hz2)));clear hi hz0 hz1 hz2;have H64:=Lib.hid (phis_lt hs);have HIN:=Lib.hid hin
  have HAL:=Lib.hid ha;clear hin ha;(go_enter Try.func27,Try.ntmps27);go_wp2_with fail
  go_loopw [7,12] (fun u i wr=>∃ (k:Nat) (cs:List Value),k≤phis.length∧i=.int .i64 k∧Below w.heap.size w wr∧wr.ownsRow w.heap.size 52 2 u k cs∧Rows 2 (CPhi (BF w.heap.size u wr) wr) ((phis.take k).map (phiT r ahead)) cs) (fun _ i _=>phis.length - (intOf i).toNat)
  case atStart=>exact ⟨0,[],Nat.zero_le _,rfl,Below.refl _ _,World.ownsRow_nil _ _ _ _,rfl⟩
  case round =>
    obtain ⟨k,cs,hk,rfl,hb,hown,hrows⟩:=hrel;have hz:=hb.size;have HB:=Lib.hid hb;have HOW:=Lib.hid hown;have HRW:=Lib.hid hrows
    by_cases hlt:k<phis.length
    · obtain ⟨bp,op,p,rfl,hpk,⟨hpd,-⟩,Aa,ca,hpa,hpas⟩:=(SPhis.keep (q6 hb) hs).at_ hlt;have hmem:=List.mem_of_getElem? hpk.out;have hal:=HAL.out p hmem;have HP64:=Lib.hid (H64.out p hmem);(have HT:Hid ((phis.take (k+1)).map (phiT r ahead)=(phis.take k).map (phiT r ahead)++[phiT r ahead p]):=Lib.hid (by rw [qC hpk.out,List.map_append];rfl));obtain ⟨w1,hw1,hs1,hk1,hb1,hc1,hf1⟩:=named wr #[.int .i64 p.dst,.slice Aa p.args.length ca] 52;(have hbx:w1.heap[wr.heap.size]?=some (.cells #[.int .i64 p.dst,.slice Aa p.args.length ca] 52 (0,0)):=by rw [hw1];exact heap_alloc_new _ _);have hpl:=hpas.len;clear hb hown hrows hmem
      (go_upto_region 5 with fail);rw [← hw1];clear hpd hpa hw1 hc1 hf1;have x1:=q5 hbx 1;have xf1:=q8 hbx 1;obtain ⟨P,hP⟩:∃ P,P=wr.heap.size:=⟨_,rfl⟩;rw [← hP] at hbx x1 xf1 hs1 ⊢;have HPP:=Lib.hid hP;have HB1:Hid (Below w.heap.size w w1):=Lib.hid (HB.out.trans (hb1.mono hz))
      have HBP1:=Lib.hid hb1;have HA:=Lib.hid (argsOf_any H n r p.args ahead (.slice Aa p.args.length ca) _ w1 (hrow.of_block (HB1.out.block H hrow.lt)) ⟨Aa,ca,rfl,SInts.keep hk1 hpas⟩ (VInts.keep (q6 HB1.out) hh0) HIN.out (by omega));clear hP hb1 hk1 hpas;(go_wp2_with fail);refine HA.out.mono ?_;rintro e w2 ⟨⟨va,rfl,ho⟩,hb2⟩;obtain ⟨A2,c2,rfl,hs2⟩:=slG_of_own ho (fun x hx=>HP64.out.2 x (argsT_mem hx)) (base':=w.heap.size) HB1.out.size;have hz2:=hb2.size;have hbx2:=(hb2.block P (by omega)).trans hbx
      have y1:=q5 hbx2 1;have yf1:=q8 hbx2 1;have hbx3:=qG (i:=1) (.slice A2 (argsT r ahead p.args).length c2) hbx2;(have hk3:KeptB (BG w1.heap.size w2) w2 (w2.setCell ⟨P,1,none⟩ (.slice A2 (argsT r ahead p.args).length c2)):=fun a v hb ha=>(World.cell?_of_block (Below.heap_setCell _ _ _ _ (by show a.block≠P;have:=hb.1;omega))).trans ha);have hs3:SL (w2.setCell ⟨P,1,none⟩ (.slice A2 (argsT r ahead p.args).length c2)) 1 (RIntB (fun b=>BG w1.heap.size (w2.setCell ⟨P,1,none⟩ (.slice A2 (argsT r ahead p.args).length c2)) b)) A2 c2 (argsT r ahead p.args):=by
        obtain ⟨A2',c2',e2,hs2'⟩:=slG_of_own ho (fun x hx=>HP64.out.2 x (argsT_mem hx)) (base':=w1.heap.size) (Nat.le_refl _);cases e2;exact SIntsB.go hk3 (fun b hb=>⟨hb.1,hb.2.set _ _ _⟩) hs2'
      (have HB3:Hid (Below w.heap.size w (w2.setCell ⟨P,1,none⟩ (.slice A2 (argsT r ahead p.args).length c2))):=Lib.hid ((HB1.out.trans (hb2.mono HB1.out.size)).setCell (by show w.heap.size≤P;rw [HPP.out];exact hz) _));(have HBP3:Hid (Below wr.heap.size wr (w2.setCell ⟨P,1,none⟩ (.slice A2 (argsT r ahead p.args).length c2))):=Lib.hid ((HBP1.out.trans (hb2.mono HBP1.out.size)).setCell (by show wr.heap.size≤P;rw [HPP.out];exact Nat.le_refl _) _));(have hz3:w1.heap.size≤(w2.setCell ⟨P,1,none⟩ (.slice A2 (argsT r ahead p.args).length c2)).heap.size:=by simpa using hz2);clear x1 xf1 ho hb2 hs2 hk3 hbx hbx2 hz2;(go_upto_region 6 with fail);clear y1 yf1;have HS3:=Lib.hid hs3;have hlen3:=argsT_len r ahead p.args;have HPT:Hid (phiT r ahead p=⟨p.dst,argsT r ahead p.args⟩):=Lib.hid rfl
      clear hs3;generalize w2.setCell ⟨P,1,none⟩ (.slice A2 (argsT r ahead p.args).length c2)=w3 at *;have u0:w3.cell? ⟨P,0,none⟩=some (.int .i64 p.dst):=q5 hbx3 0;have u1:w3.cell? ⟨P,1,none⟩=some (.slice A2 (argsT r ahead p.args).length c2):=q5 hbx3 1;have HOW3:=Lib.hid (qD (w':=w3) HOW.out (fun g hg=>HBP3.out.block g (HOW.out.lt g hg).2));have HZ3:=Lib.hid hz3;have HS1:=Lib.hid hs1;clear hbx3 hz3 hs1;go_wp2_with (at_builtin;refine wpList_append_lies _ rfl (.tmp 22) (.tmp 24) 40 rfl w.heap.size 52 i0 (.agg #[.int .i64 0,.slice none 0 0]) 2 32 Try.underlying40 HI.out.1 HI.out.2.1 HI.out.2.2.1 HI.out.2.2.2 (by rfl) (by decide) _ _ _ rfl (HOW3.out.alloc _) ⟨w3.heap.size,0,none⟩ 1 1 [.int .i64 p.dst,.slice A2 (argsT r ahead p.args).length c2] rfl rfl ?c1 ?c2 ?c0 ?c3 ?c4 ?c5 (w3.heap.size+1) ?c6 ?_)
      case c1=>exact qf w3 #[.int .i64 p.dst,.slice A2 (argsT r ahead p.args).length c2] _ rfl
      case c2=>intro u hu;simp only [List.mem_cons,List.not_mem_nil,or_false] at hu;rcases hu with rfl | rfl <;> rfl
      case c0=>omega
      case c3=>unfold maxLen;omega
      case c4=>omega
      case c5=>have:=HB3.out.size;simp;omega
      case c6=>simp
      intro g cap w4 hown4 hgrow4 hloc4 hlt4;(have hbel4:Below w.heap.size w w4:=(HB3.out.alloc HB3.out.size _).grown hgrow4 (by have:=HB3.out.size;simp;omega) (fun g hg=>(HOW.out.lt g hg).1));(have hsame:∀ b,b<w3.heap.size→some b≠(Value.ownBlock _)→w4.heap[b]?=w3.heap[b]?:=fun b hb hne=>(hgrow4.block b (by simp;omega) hne).trans (Below.heap_alloc _ _ _ hb));have hz0:=HBP3.out.size;have hrows4:Rows 2 (CPhi (BF w.heap.size (.slice (some ⟨g,0,none⟩) (k+1) cap) w4) w4) ((phis.take (k+1)).map (phiT r ahead)) (cs++[.int .i64 p.dst,.slice A2 (argsT r ahead p.args).length c2]):=by
        rw [HT.out];refine rows_grow (F:=CPhi) cphi_go HRW.out (fun b hb hne=>(hsame b (by omega) hne).trans (HBP3.out.block b hb)) ?_ rfl ?_
        · rcases hloc4 with h | h
          · exact .inl h.symm
          · right;intro g' hg';have:g=g':=Option.some.inj hg';omega
        · refine ⟨A2,c2,rfl,?_,HP64.out.1⟩;have hz1:=HS1.out;have hPw:=HPP.out;(refine SIntsB.go (B:=BG w1.heap.size w3) (fun a v hb ha=>(World.cell?_of_block (hsame a.block hb.2.lt (fun e=>by have:=(HOW.out.lt _ e.symm).2;have:=hb.1;omega))).trans ha) (fun b hb=>⟨⟨by have:=HB1.out.size;have:=hb.1;omega,hb.2.same (hsame b hb.2.lt (fun e=>by have:=(HOW.out.lt _ e.symm).2;have:=hb.1;omega))⟩,fun e=>?_⟩) HS3.out);have hbg:b=g:=Option.some.inj e;have hb1:=hb.1;have hb2:=hb.2.lt;rcases hloc4 with h | h
          · have:=(HOW.out.lt _ h).2;omega
          · omega
      have HB4:=Lib.hid hbel4;have HO4:Hid (w4.ownsRow w.heap.size 52 2 (.slice (some ⟨g,0,none⟩) (k+1) cap) (k+1) (cs++[.int .i64 p.dst,.slice A2 (argsT r ahead p.args).length c2])):=Lib.hid hown4;have HR4:=Lib.hid hrows4;clear hown4 hgrow4 hloc4 hbel4 hsame hrows4 u0 u1 hz0;go_wp2_with fail
      go_roundw
      case rel=>exact ⟨k+1,_,by omega,by go_num,HB4.out,HO4.out,HR4.out⟩
      case measure=>simp [intOf];omega
    · have hkk:phis.take k=phis:=List.take_of_length_le (by omega);(have hkl:k=(phis.map (phiT r ahead)).length:=by simp;omega);rw [hkk] at hrows;rw [hkl] at hown;have hrd:=hrows.reads (R:=RPhiB (BG w.heap.size wr)) hown (fun g o x c hg hb hx hc hcell=>CPhi.reads ⟨hb,Fz.own hown hg⟩ (CPhi.go (fun _ _ _ h=>h) (fun b hb=>hb.1) hx) hcell);obtain ⟨Ar,cr,hu,hrs⟩:=hrd;have HRS:=Lib.hid hrs;have HU:=Lib.hid hu;clear hb hown hrows hrs hu hkl hkk
      (go_wp2_with fail);(go_ret);exact ⟨⟨Ar,cr,by exact congrArg Ending.returned HU.out,HRS.out⟩,HB.out⟩
def extL (lab:Nat→Nat) (n t:Nat):Nat→Nat:=fun k=>if k<n then lab k else t
theorem qJ {lab:Nat→Nat} {n t k:Nat} (h:k<n):extL lab n t k=lab k:=if_pos h
theorem extL_new {lab:Nat→Nat} {n t k:Nat} (h:n≤k):extL lab n t k=t:=if_neg (by omega)
def relL (lab:Nat→Nat) (s:Nat):Nat→Nat:=fun k=>if lab k=s then 0 else lab k
theorem relL_at {lab:Nat→Nat} {s k:Nat} (h:lab k=s):relL lab s k=0:=if_pos h
theorem relL_else {lab:Nat→Nat} {s k t:Nat} (h:lab k=t) (hs:t≠s):relL lab s k=t:=by unfold relL;rw [if_neg (by rw [h];exact hs),h]
def Chg (w w':World) (lab:Nat→Nat) (S:Nat→Prop):Prop:=FrX (fun k=>S (lab k)) w w'
theorem Chg.of_below {w w':World} {lab:Nat→Nat} {S:Nat→Prop} (h:Below w.heap.size w w'):Chg w w' lab S:=FrX.of_below h
structure LRw (w:World) (K:Nat) (lab:Nat→Nat) (t:Nat) (ty:TypeId) (sz:Nat) (v:Value) (n:Nat) (xs:List Value):Prop where
  own:w.ownsRow K ty sz v n xs
  lb:∀ g,v.ownBlock=some g→lab g=t
section
variable {w w':World} {K t t2 n n' j s sz g cap:Nat} {lab:Nat→Nat} {S:Nat→Prop} {ty:TypeId} {v v' u:Value} {xs xs':List Value}
theorem LRw.nil (w:World) (K:Nat) (lab:Nat→Nat) (t:Nat) (ty:TypeId) (sz:Nat):LRw w K lab t ty sz (.slice none 0 0) 0 []:=⟨World.ownsRow_nil _ _ _ _,fun g hg=>by cases hg⟩
theorem LRw.chg (h:LRw w K lab t ty sz v n xs) (hc:Chg w w' lab S) (hn:¬ S t):LRw w' K (extL lab w.heap.size t2) t ty sz v n xs :=
  ⟨qD h.own fun g hg=>hc.block g (h.own.lt g hg).2 (by rw [h.lb g hg];exact hn),fun g hg=>by rw [qJ (h.own.lt g hg).2];exact h.lb g hg⟩
theorem LRw.chg0 (h:LRw w K lab t ty sz v n xs) (hc:Chg w w' lab S) (hn:¬ S t):LRw w' K lab t ty sz v n xs :=
  ⟨qD h.own fun g hg=>hc.block g (h.own.lt g hg).2 (by rw [h.lb g hg];exact hn),h.lb⟩
theorem LRw.gro (h:LRw w K lab t ty sz v n xs) (hg:GroD w w' v v') (ho:w'.ownsRow K ty sz v' n' xs'):LRw w' K (extL lab w.heap.size t) t ty sz v' n' xs' :=
  ⟨ho,fun g hgg=>by
    rcases hg.own g hgg with e | e
    · rw [qJ (h.own.lt g e).2];exact h.lb g e
    · exact extL_new e⟩
theorem LRw.chgGro (h:LRw w K lab t ty sz v n xs) (hg:GroD w w' v v'):Chg w w' lab (fun k=>k=t) :=
  ⟨hg.os,hg.tape,hg.output,hg.size,fun k hk hs=>hg.block k hk (fun e=>hs (h.lb k e))⟩
theorem LRw.rel (h:LRw w K lab t ty sz v n xs) (hs:t≠s):LRw w K (relL lab s) t ty sz v n xs:=⟨h.own,fun g hg=>relL_else (h.lb g hg) hs⟩
theorem LRw.rel0 (h:LRw w K lab s ty sz v n xs):LRw w K (relL lab s) 0 ty sz v n xs:=⟨h.own,fun g hg=>relL_at (h.lb g hg)⟩
theorem LRw.put (h:LRw w K lab t ty sz (.slice (some ⟨g,0,none⟩) n cap) n xs) (i:Nat) (u:Value):LRw (w.setCell ⟨g,i,none⟩ u) K lab t ty sz (.slice (some ⟨g,0,none⟩) n cap) n (xs.set i u) :=
  ⟨(h.own.stored i u).1,h.lb⟩
theorem LRw.chgPut (h:LRw w K lab t ty sz (.slice (some ⟨g,0,none⟩) n cap) n xs) (i:Nat) (u:Value):Chg w (w.setCell ⟨g,i,none⟩ u) lab (fun k=>k=t) :=
  (FrX.refl _ _).setCell (p:=⟨g,i,none⟩) (.inl (h.lb g rfl)) u
theorem Chg.mono {S':Nat→Prop} (h:Chg w w' lab S) (hs:∀ t,S t→S' t):Chg w w' lab S':=FrX.mono h fun k _ hk=>hs _ hk
theorem Chg.trans {w'':World} (h:Chg w w' lab S) (k:Chg w' w'' lab S):Chg w w'' lab S:=FrX.trans h k
theorem Chg.set (S:Nat→Prop) (hg:S (lab g)) (i:Nat) (u:Value):Chg w (w.setCell ⟨g,i,none⟩ u) lab S:=(FrX.refl _ _).setCell (p:=⟨g,i,none⟩) (.inl hg) u
theorem Chg.then_ {w'':World} (h:Chg w w' lab S) (k:Chg w' w'' (extL lab w.heap.size t2) S):Chg w w'' lab S :=
  ⟨k.os.trans h.os,k.tape.trans h.tape,k.output.trans h.output,Nat.le_trans h.size k.size,fun y hy hS =>
    (k.block y (Nat.lt_of_lt_of_le hy h.size) (fun e=>hS (by
      have e':S (extL lab w.heap.size t2 y):=e
      rwa [qJ hy] at e'))).trans (h.block y hy hS)⟩
theorem LRw.cell (h:LRw w K lab t ty sz (.slice (some ⟨g,0,none⟩) n cap) n xs) {i:Nat} {u:Value} (hu:xs[i]?=some u) (hi:i<n * sz):w.cell? ⟨g,i,none⟩=some u:=by rw [h.own.cellAt i hi];exact hu
theorem LRw.form (h:LRw w K lab t ty sz v n xs) (hn:0<n):∃ g cap,v=.slice (some ⟨g,0,none⟩) n cap:=by obtain ⟨g,cap,e,-,-⟩:=h.own.form hn;exact ⟨g,cap,e⟩
end
def RdV (w:World) (lab:Nat→Nat) (v:Value) (l:List Int):Prop:=VS w 1 (RIntB fun g=>lab g=0∧Fz w g) v l
theorem RdV.go {w w':World} {lab lab':Nat→Nat} {v:Value} {l:List Int} (h:RdV w lab v l) (hk:∀ y,y<w.heap.size→lab y=0→w'.heap[y]?=w.heap[y]?∧lab' y=0):RdV w' lab' v l:=by
  obtain ⟨A,c,e,h1⟩:=h;exact ⟨A,c,e,SIntsB.go (fun a v hb ha=>(World.cell?_of_block (hk a.block hb.2 hb.1.1).1).trans ha) (fun b hb=>⟨(hk b hb.2 hb.1.1).2,hb.1.2.same (hk b hb.2 hb.1.1).1⟩) (SIntsB.lt h1)⟩
theorem RdV.chg {w w':World} {t2:Nat} {lab:Nat→Nat} {S:Nat→Prop} {v:Value} {l:List Int} (h:RdV w lab v l) (hc:Chg w w' lab S) (h0:¬ S 0):RdV w' (extL lab w.heap.size t2) v l :=
  h.go fun y hy hl=>⟨hc.block y hy (by rw [hl];exact h0),by rw [qJ hy];exact hl⟩
theorem RdV.chg0 {w w':World} {lab:Nat→Nat} {S:Nat→Prop} {v:Value} {l:List Int} (h:RdV w lab v l) (hc:Chg w w' lab S) (h0:¬ S 0):RdV w' lab v l :=
  h.go fun y hy hl=>⟨hc.block y hy (by rw [hl];exact h0),hl⟩
theorem RdV.rel {w:World} {s:Nat} {lab:Nat→Nat} {v:Value} {l:List Int} (h:RdV w lab v l) (hs:s≠0):RdV w (relL lab s) v l :=
  h.go fun y hy hl=>⟨rfl,relL_else hl (Ne.symm hs)⟩
theorem RdV.plain {w:World} {lab:Nat→Nat} {v:Value} {l:List Int} (h:RdV w lab v l):VS w 1 RInt v l:=by
  obtain ⟨A,c,e,h1⟩:=h;exact ⟨A,c,e,SL.imp (fun b o x hx=>hx.2) h1⟩
theorem RdV.of_own {w:World} {K:Nat} {lab:Nat→Nat} {v:Value} {l:List Int} (h:LRw w K lab 0 3 1 v l.length (l.map (Value.int .i64))) (h64:∀ x∈l,I64 x):RdV w lab v l:=by
  obtain ⟨A,c,e,h1,h2,h3⟩:=qV h.own h64;refine ⟨A,c,e,h1,h2,fun hp=>?_⟩;obtain ⟨b,o,e2,hr⟩:=h3 hp;exact ⟨b,o,e2,fun i x hi=>⟨⟨h.lb b (by rw [e,e2];rfl),Fz.own h.own (by rw [e,e2];rfl)⟩,hr i x hi⟩⟩
section
variable {α:Type} {f:α→List Value} {sz:Nat}
theorem flat_len (hf:∀ x,(f x).length=sz):∀ (l:List α),(l.flatMap f).length=l.length * sz
  | []=>by simp
  | x::l=>by rw [List.flatMap_cons,List.length_append,hf,flat_len hf l,List.length_cons,Nat.succ_mul];omega
theorem flat_at (hf:∀ x,(f x).length=sz):∀ {l:List α} {i j:Nat} {x:α},l[i]?=some x→j<sz→(l.flatMap f)[i * sz+j]?=(f x)[j]?
  | [],i,j,x,h,_=>by simp at h
  | y::l,0,j,x,h,hj=>by
    (obtain rfl:y=x:=by simpa using h);rw [List.flatMap_cons,Nat.zero_mul,Nat.zero_add,List.getElem?_append_left (by rw [hf];exact hj)]
  | y::l,i+1,j,x,h,hj=>by
    (rw [List.flatMap_cons,List.getElem?_append_right (by rw [hf,Nat.succ_mul];omega),hf,show (i+1) * sz+j - sz=i * sz+j by rw [Nat.succ_mul];omega]);exact flat_at hf (by simpa using h) hj
theorem flat_set (hf:∀ x,(f x).length=sz):∀ {l:List α} {i j:Nat} {x x':α} {u:Value},l[i]?=some x→j<sz→f x'=(f x).set j u→(l.flatMap f).set (i * sz+j) u=(l.set i x').flatMap f
  | [],i,j,x,x',u,h,_,_=>by simp at h
  | y::l,0,j,x,x',u,h,hj,he=>by
    (obtain rfl:y=x:=by simpa using h);rw [List.set_cons_zero,List.flatMap_cons,List.flatMap_cons,he,Nat.zero_mul,Nat.zero_add,List.set_append_left _ _ (by rw [hf];exact hj)]
  | y::l,i+1,j,x,x',u,h,hj,he=>by
    (rw [List.set_cons_succ,List.flatMap_cons,List.flatMap_cons,List.set_append_right _ _ (by rw [hf,Nat.succ_mul];omega),hf,show (i+1) * sz+j - sz=i * sz+j by rw [Nat.succ_mul];omega]);rw [flat_set hf (by simpa using h) hj he]
end
end Go.Proofs.Ytfoggldjjnabcaa
