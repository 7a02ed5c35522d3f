/- The program's Next. No condition. -/
import Derived.Test.YtfoggldjjnabcaaGrNmJ
import Derived.StillTailTactics
import Derived.Test.YtfoggldjjnabcaaModAJ
namespace Go.Proofs.Ytfoggldjjnabcaa
open Go.ChangeShapes Go.WideShapes Go.RowKit Go.Deep
set_option linter.unusedVariables false
theorem isBlock_any (f:FunD) (v:Value) (a:Int) (w:World) (hv:VFun w v f) :
    Calls Try.prog 58 #[v,.int .i64 a] w fun e w'=>e=.returned (.bool (isAtB a f.blocks.length))∧Below w.heap.size w w':=by
  obtain ⟨Ar,cr,A,c,rfl,-,hb,-,-⟩:=hv;have hbl:=hb.len
  by_cases h0:0≤a
  · by_cases h1:a<f.blocks.length
    · have e:isAtB a f.blocks.length=true:=decide_eq_true ⟨h0,h1⟩;rw [e];clear e;(go_enter Try.func58,Try.ntmps58);(go_wp2_with fail);(go_ret);exact ⟨rfl,(Below.refl _ _).alloc (Nat.le_refl _) _⟩
    · have e:isAtB a f.blocks.length=false:=decide_eq_false (by omega);have h2:decide (a<(f.blocks.length:Int))=false:=decide_eq_false h1;rw [e];clear e h1;(go_enter Try.func58,Try.ntmps58);(go_wp2_with fail);(go_ret);exact ⟨rfl,(Below.refl _ _).alloc (Nat.le_refl _) _⟩
  · have e:isAtB a f.blocks.length=false:=decide_eq_false (by omega);rw [e];clear e;(go_enter Try.func58,Try.ntmps58);(go_wp2_with fail);(go_ret);exact ⟨rfl,(Below.refl _ _).alloc (Nat.le_refl _) _⟩
set_option maxRecDepth 100000 in
set_option maxHeartbeats 4000000 in
theorem next_any (f:FunD) (v:Value) (w:World) (hv:VFun w v f) (hn:f.blocks.length≤1000000) :
    Calls Try.prog 44 #[v] w fun e w'=>(∃ V G,e=.returned (.slice (some ⟨G,0,none⟩) f.blocks.length f.blocks.length)∧w.heap.size≤G∧Gri w' G (G+2) f.blocks.length V (fun i=>zs (nxF f.blocks i)))∧Below w.heap.size w w':=by
  obtain ⟨Ar,cr,A,c,rfl,hr,hb,hp64,hr64⟩:=hv;have hbl:=hb.len;obtain ⟨i0,hi,hz0,hz1,hz2⟩:=info_parts Try.info3;have HI:=Lib.hid (And.intro hi (And.intro hz0 (And.intro hz1 hz2)));clear hi hz0 hz1 hz2;have hmk:=run_make_row' (P:=Try.prog) 60 28 (.slice none 0 0) 24 Try.underlying60 Try.info28 rfl .i64 .i64 f.blocks.length (by omega) (by omega);have hmk2:=run_make_row' (P:=Try.prog) 28 3 (.int .i64 0) 8 Try.underlying28 Try.info3 rfl .i64 .i64 f.blocks.length (by omega) (by omega);have HP:=Lib.hid hp64;have HR:=Lib.hid hr64
  clear hp64 hr64;(go_enter Try.func44,Try.ntmps44);(go_wp2_with fail);clear hmk hmk2;obtain ⟨w1,hw1,hs1,hk1,hbel1,hc1,-⟩:=named w #[.int .i64 f.params,.int .i64 f.result,.slice Ar f.regs.length cr,.slice A f.blocks.length c] 31;have c0:=hc1 0 _ rfl;have c1:=hc1 1 _ rfl;have c2:=hc1 2 _ rfl;have c3:=hc1 3 _ rfl
  rw [← hw1];clear hw1 hc1;obtain ⟨N,hN⟩:∃ N,N=w.heap.size:=⟨_,rfl⟩;rw [← hN] at c0 c1 c2 c3 hs1 hbel1 ⊢;have hgr:=(Gri.made w1 (N+1) (N+1+2) f.blocks.length hs1.symm (by omega)).alloc (.cells (madeCells #[.int .i64 0] f.blocks.length) 3);have hla:((w1.alloc (.cells (madeCells #[.slice none 0 0] f.blocks.length) 28)).alloc (.cells (madeCells #[.int .i64 0] f.blocks.length) 3)).rowIs (N+1+1) 3 f.blocks.length (fun i=>.int .i64 ((fun _=>(0:Int)) i)):=by
    have:=World.rowIs_made (w1.alloc (.cells (madeCells #[.slice none 0 0] f.blocks.length) 28)) (.int .i64 0) f.blocks.length 3;simpa [hs1] using this
  (have hbel1':Below (N+1) w1 ((w1.alloc (.cells (madeCells #[.slice none 0 0] f.blocks.length) 28)).alloc (.cells (madeCells #[.int .i64 0] f.blocks.length) 3)):=((Below.refl _ _).alloc (by omega) _).alloc (by simp;omega) _);(have hs2:N+1+1<((w1.alloc (.cells (madeCells #[.slice none 0 0] f.blocks.length) 28)).alloc (.cells (madeCells #[.int .i64 0] f.blocks.length) 3)).heap.size:=by simp;omega);generalize (w1.alloc (.cells (madeCells #[.slice none 0 0] f.blocks.length) 28)).alloc (.cells (madeCells #[.int .i64 0] f.blocks.length) 3)=w2 at *;have HS1:=Lib.hid hs1;have HN:=Lib.hid hN;have hvf:VFun w1 (.agg #[.int .i64 f.params,.int .i64 f.result,.slice Ar f.regs.length cr,.slice A f.blocks.length c]) f:=⟨Ar,cr,A,c,rfl,SInts.keep hk1 hr,SBlks.keep hk1 hb,HP.out,HR.out⟩;clear hs1 hN hr
  go_loopw [20] (fun i wr=>∃ (k:Nat) (V:Nat→Value) (la:Nat→Int),k≤f.blocks.length∧i=.int .i64 k∧Below (N+1) w1 wr∧N+1+1<wr.heap.size∧Gri wr (N+1) (N+1+2) f.blocks.length V (NX f.blocks k [])∧wr.rowIs (N+1+1) 3 f.blocks.length (fun i=>.int .i64 (la i))∧LastOk la f.blocks.length k (nextN f.blocks.length [])) (fun i _=>f.blocks.length - (intOf i).toNat)
  case atStart=>exact ⟨0,_,_,Nat.zero_le _,rfl,hbel1',hs2,hgr.congr fun i _=>(NX_zero _ _).symm,hla,LastOk.start _⟩
  case round =>
    obtain ⟨k,V,la,hk,rfl,hbel,hs,hg,hl,hlo⟩:=hrel;obtain ⟨wo,rfl⟩:∃ wo,wo=wr:=⟨wr,rfl⟩;(have hkw:Kept w1 wo:=kept_below hbel (by have:=HS1.out;omega));have c3o:=hkw _ _ c3
    by_cases hlt:k<f.blocks.length
    · obtain ⟨b,o,kb,rfl,hkb,⟨Ap,cp,hphi,-⟩,⟨Ai,ci,hins,-⟩,⟨hkd,-⟩,⟨har,-⟩,⟨At,ct,hto,htos⟩⟩:=(SBlks.keep hk1 hb).at_ hlt;have hphi:=hkw _ _ hphi;have hins:=hkw _ _ hins;have hkd:=hkw _ _ hkd;have har:=hkw _ _ har;have hto:=hkw _ _ hto;have htl:=htos.len;(go_wp2_with fail);clear hphi hins hkd har hto
      obtain ⟨w3,hw3,hs3,hk3,hbel3,-,-⟩:=named wo #[.slice Ap kb.phis.length cp,.slice Ai kb.ins.length ci,.int .i64 kb.term.kind,.int .i64 kb.term.arg,.slice At kb.term.to.length ct] 43;have hg3:Gri w3 (N+1) (N+1+2) f.blocks.length V (NX f.blocks k (kb.term.to.take 0)):=by
        rw [hw3,List.take_zero];exact hg.alloc _
      (have hl3:w3.rowIs (N+1+1) 3 f.blocks.length (fun i=>.int .i64 (la i)):=by rw [hw3];exact hl.alloc _);have hb3:Below (N+1) w1 w3:=hbel.trans (hbel3.mono (by omega));(have hs3:N+1+1<w3.heap.size:=by omega);rw [← hw3];clear hw3
      go_loopw [29] (fun i wr=>∃ (j:Nat) (V:Nat→Value) (la:Nat→Int),j≤kb.term.to.length∧i=.int .i64 j∧Below (N+1) w1 wr∧N+1+1<wr.heap.size∧Gri wr (N+1) (N+1+2) f.blocks.length V (NX f.blocks k (kb.term.to.take j))∧wr.rowIs (N+1+1) 3 f.blocks.length (fun i=>.int .i64 (la i))∧LastOk la f.blocks.length k (nextN f.blocks.length (kb.term.to.take j))) (fun i _=>kb.term.to.length - (intOf i).toNat)
      case atStart=>exact ⟨0,V,la,Nat.zero_le _,rfl,hb3,hs3,hg3,hl3,by rw [List.take_zero];exact hlo⟩
      case round =>
        obtain ⟨j,V',la',hj,rfl,hbelr,hsr,hgr',hlr,hlor⟩:=hrel;(have hkr:Kept w1 wr:=kept_below hbelr (by have:=HS1.out;omega));have c0r:=hkr _ _ c0;have c1r:=hkr _ _ c1;have c2r:=hkr _ _ c2;have c3r:=hkr _ _ c3
        by_cases hjt:j<kb.term.to.length
        · obtain ⟨b',o',x,rfl,hx,hxc,hx64⟩:=htos.int hjt;have hxc:=hkr _ _ hxc;(go_wp2_with fail);refine (isBlock_any f _ x wr (VFun.keep hkr hvf)).mono ?_;rintro e w4 ⟨rfl,hb4⟩;have hg4:=hgr'.below hb4;have hl4:w4.rowIs (N+1+1) 3 f.blocks.length (fun i=>.int .i64 (la' i)):=hlr.of_block (hb4.block _ hlr.lt);have hbel4:Below (N+1) w1 w4:=hbelr.trans (hb4.mono (by omega));have hs4:N+1+1<w4.heap.size:=by have:=hb4.size;omega
          clear c0r c1r c2r c3r hxc hgr' hlr hbelr hb4 hkr
          by_cases hin:0≤x∧x<f.blocks.length
          · obtain ⟨q,rfl⟩:∃ q:Nat,x=q:=⟨x.toNat,by omega⟩;(have hq:q<f.blocks.length:=by omega);have hat:isAtB q f.blocks.length=true:=decide_eq_true hin;rw [hat];(have hq1:(q:Int)<f.blocks.length:=by omega);(have hq0:(0:Int)≤q:=by omega);clear hin hat;obtain ⟨hy0,hy1,hym⟩:=hlor q hq;have hyc:=hl4.cell hq
            obtain ⟨y,hy⟩:∃ y,y=la' q:=⟨_,rfl⟩;simp only [← hy] at hyc hy0 hy1 hym;have HYM:=Lib.hid hym;clear hy hym
            by_cases hyk:y=k+1
            · (have hb1:((y:Int) != (k:Int)+1)=false:=by simp [hyk]);have hold:¬ (0≤(q:Int)∧(q:Int)<f.blocks.length∧(q:Int).toNat ∉ nextN f.blocks.length (kb.term.to.take j)):=fun h=>h.2.2 (by simpa using HYM.out.1 hyk);clear hyk;have HO:=Lib.hid hold;clear hold;go_wp2_with fail
              go_roundw
              case rel=>exact ⟨j+1,V',la',by omega,by go_num,hbel4,hs4,hg4.congr (fun i _=>NX_old hx.out HO.out i),hl4,hlor.old hx.out HO.out⟩
              case measure=>simp [intOf];omega
            · (have hb1:((y:Int) != (k:Int)+1)=true:=by simpa using hyk);have HNEW:Hid (q ∉ nextN f.blocks.length (kb.term.to.take j)):=Lib.hid fun h=>hyk (HYM.out.2 h);clear hyk;have hfy:=hl4.frozen q;have hset:=hl4.set q (.int .i64 ((k:Int)+1));(have hgs:Gri (w4.setCell ⟨N+1+1,q,none⟩ (.int .i64 ((k:Int)+1))) (N+1) (N+1+2) f.blocks.length V' (NX f.blocks k (kb.term.to.take j)):=hg4.setOther (by show N+1≠N+1+1;omega) (by show N+1+1<N+1+2;omega) _);(have hbs:Below (N+1) w1 (w4.setCell ⟨N+1+1,q,none⟩ (.int .i64 ((k:Int)+1))):=hbel4.setCell (by show N+1≤N+1+1;omega) _);(have hss:N+1+1<(w4.setCell ⟨N+1+1,q,none⟩ (.int .i64 ((k:Int)+1))).heap.size:=by simpa using hs4);go_upto_region 11 with fail
              clear hyc hfy hb1;generalize w4.setCell ⟨N+1+1,q,none⟩ (.int .i64 ((k:Int)+1))=w5 at *;have hrow:=hgs.row.cell hlt;have hll:(NX f.blocks k (kb.term.to.take j) k).length≤f.blocks.length:=by
                rw [NX_here,qP];exact nextN_few _ _
              have hvs:VS w5 1 RInt (V' k) (NX f.blocks k (kb.term.to.take j) k):=qV (hgs.own k hlt) (by
                rw [NX_here];intro x hx;obtain ⟨q,hq,rfl⟩:=zs_mem hx;have:=(nextN_mem.1 hq).1;unfold I64;omega)
              go_wp2_with (at_builtin;refine wpList_append_lies _ rfl (.tmp 55) (.tmp 57) 28 rfl (N+1+2) 3 i0 (.int .i64 0) 1 8 Try.underlying28 HI.out.1 HI.out.2.1 HI.out.2.2.1 HI.out.2.2.2 rfl (by decide) (V' k) _ _ rfl ((hgs.own k hlt).alloc _) ⟨w5.heap.size,0,none⟩ 1 1 [.int .i64 q] rfl rfl ?c1 ?c2 ?c0 ?c3 ?c4 ?c5 (w5.heap.size+1) ?c6 ?_)
              case c1=>exact qR w5 _ _ rfl
              case c2=>exact ints_oneCell .i64 [(q:Int)]
              case c0=>omega
              case c3=>unfold maxLen;omega
              case c4=>omega
              case c5=>simp;omega
              case c6=>simp
              intro g cap w6 hown6 hgrow6 hloc6 hlt6;have hgp:=Gri.push (hgs.alloc _) hlt hown6 hgrow6 (by simpa using hloc6);have hgp':=hgp.congr (fun i _=>NX_new hx.out hq HNEW.out i);(have hb6:Below (N+1) w1 w6:=(hbs.alloc (by omega) _).grown hgrow6 (by simp;omega) (fun g hg=>by have:=((hgs.own k hlt).lt g hg).1;omega));(have hG6:w6.heap[N+1]?=(w5.alloc (.cells #[.int .i64 q] 3)).heap[N+1]?:=hgrow6.block _ (by simp;omega) (fun e=>by have:=((hgs.own k hlt).lt _ e.symm).1;omega));have hrow6:=(World.cell?_of_block (a:=⟨N+1,k,none⟩) hG6).trans ((hgs.row.alloc _).cell hlt);have hfr6:=(World.frozen?_of_block (a:=⟨N+1,k,none⟩) hG6).trans ((hgs.row.alloc _).frozen k);(have hs6:N+1+1<w6.heap.size:=by have:=hgrow6.size;simp at this;omega);have hL6:w6.heap[N+1+1]?=(w5.alloc (.cells #[.int .i64 q] 3)).heap[N+1+1]?:=hgrow6.block _ (by simp;omega) (fun e=>by have:=((hgs.own k hlt).lt _ e.symm).1;omega)
              (have hl6:=((hset.alloc (.cells #[.int .i64 q] 3)).of_block hL6).setOther (a:=⟨N+1,k,none⟩) (by show N+1+1≠N+1;omega) (.slice (some ⟨g,0,none⟩) ((NX f.blocks k (kb.term.to.take j) k).length+1) cap));(have hl6':=hl6.congr (g:=fun i=>.int .i64 ((fun i=>if i=q then (k:Int)+1 else la' i) i)) (fun i _=>by by_cases e:i=q <;> simp [e]));have HP6:=Lib.hid hgp';have HL6:=Lib.hid hl6';have HLO6:=Lib.hid (hlor.new hx.out hq HNEW.out);clear hgp hgp' hown6 hgrow6 hloc6 hG6 hgs hrow hvs hl6 hl6' hL6 hlor hset hl4 hg4;go_wp2_with fail
              go_roundw
              case rel=>exact ⟨j+1,_,_,by omega,by go_num,hb6.setCell (by show _≤N+1;omega) _,by simpa using hs6,HP6.out,HL6.out,HLO6.out⟩
              case measure=>simp [intOf];omega
          · have hat:isAtB x f.blocks.length=false:=decide_eq_false hin;rw [hat];have hold:¬ (0≤x∧x<f.blocks.length∧x.toNat ∉ nextN f.blocks.length (kb.term.to.take j)):=fun h=>hin ⟨h.1,h.2.1⟩;have HO:=Lib.hid hold;clear hold hin hat;go_wp2_with fail
            go_roundw
            case rel=>exact ⟨j+1,V',la',by omega,by go_num,hbel4,hs4,hg4.congr (fun i _=>NX_old hx.out HO.out i),hl4,hlor.old hx.out HO.out⟩
            case measure=>simp [intOf];omega
        · have hjj:kb.term.to.take j=kb.term.to:=List.take_of_length_le (by omega);rw [hjj] at hgr' hlor;clear hjj;go_wp2_with fail
          go_roundw
          case rel=>exact ⟨k+1,V',la',by omega,by go_num,hbelr,hsr,hgr'.congr (fun i _=>NX_all hkb.out i),hlr,hlor.next⟩
          case measure=>simp [intOf];omega
    · (have hkk:k=f.blocks.length:=by omega);subst hkk;(go_wp2_with fail);(go_ret);exact ⟨⟨V,_,rfl,by have:=HN.out;omega,hg.congr (fun i hi=>NX_end _ _ hi)⟩,by rw [← HN.out];exact hbel1.trans (hbel.mono (by omega))⟩
structure BW (w:World) (M G n:Nat) (S:Nat→Bool) (R:Nat→List Nat) (V:Nat→Value) (op dn:List Nat) (vo vd:Value):Prop where
  nbox:w.heap[M]?=some (.cells #[.slice (some ⟨G,0,none⟩) n n] 60 (0,0))
  gbox:w.heap[M+2]?=some (.cells #[.slice (some ⟨M+1,0,none⟩) n n] 59 (0,0))
  dbox:w.heap[M+3]?=some (.cells #[vd] 28 (0,0))
  obox:w.heap[M+4]?=some (.cells #[vo] 28 (0,0))
  ebox:w.heap[M+5]?=some (.cells #[.func (.func 72) #[] #[.pointer (some ⟨M+2,0,none⟩),.pointer (some ⟨M+4,0,none⟩)]] 119 (0,0))
  rbox:w.heap[M+6]?=some (.cells #[.func (.func 73) #[] #[.pointer (some ⟨M,0,none⟩),.pointer (some ⟨M+2,0,none⟩),.pointer (some ⟨M+5,0,none⟩),.pointer (some ⟨M+6,0,none⟩),.pointer (some ⟨M+4,0,none⟩),.pointer (some ⟨M+3,0,none⟩)]] 110 (0,0))
  grow:w.rowIs (M+1) 4 n (fun x=>.bool (S x))
  nrow:w.rowIs G 28 n V
  lists:∀ x,x<n→∃ A c,V x=.slice A (R x).length c∧SL w 1 (RIntB (fun b=>b<M∧b≠G)) A c (zs (R x))
  ownO:w.ownsRow (M+7) 3 1 vo op.length ((zs op).map (Value.int .i64))
  ownD:w.ownsRow (M+7) 3 1 vd dn.length ((zs dn).map (Value.int .i64))
  apart:vo.ownBlock=none∨vo.ownBlock≠vd.ownBlock
  inR:∀ x,x<n→∀ t∈R x,t<n
  gm:G<M
theorem BW.size {w:World} {M G n:Nat} {S:Nat→Bool} {R:Nat→List Nat} {V:Nat→Value} {op dn:List Nat} {vo vd:Value} (h:BW w M G n S R V op dn vo vd):M+6<w.heap.size:=qW h.rbox
theorem BW.of_blocks {w w':World} {M G n:Nat} {S:Nat→Bool} {R:Nat→List Nat} {V:Nat→Value} {op dn:List Nat} {vo vd:Value} (h:BW w M G n S R V op dn vo vd)
    (hk:∀ k,k<M+7→w'.heap[k]?=w.heap[k]?) (ho:∀ g,vo.ownBlock=some g→w'.heap[g]?=w.heap[g]?) (hd:∀ g,vd.ownBlock=some g→w'.heap[g]?=w.heap[g]?):BW w' M G n S R V op dn vo vd:=by
  have hgm:=h.gm;refine ⟨(hk _ (by omega)).trans h.nbox,(hk _ (by omega)).trans h.gbox,(hk _ (by omega)).trans h.dbox,(hk _ (by omega)).trans h.obox,(hk _ (by omega)).trans h.ebox,(hk _ (by omega)).trans h.rbox,h.grow.of_block (hk _ (by omega)),h.nrow.of_block (hk _ (by omega)),fun x hx=>?_,qD h.ownO ho,qD h.ownD hd,h.apart,h.inR,h.gm⟩;obtain ⟨A,c,e,hs⟩:=h.lists x hx;exact ⟨A,c,e,SIntsB.go (fun a v hb ha=>(World.cell?_of_block (hk _ (by have:=hb.1;omega))).trans ha) (fun _ hb=>hb) hs⟩
theorem BW.below {w w':World} {M G n:Nat} {S:Nat→Bool} {R:Nat→List Nat} {V:Nat→Value} {op dn:List Nat} {vo vd:Value} (h:BW w M G n S R V op dn vo vd) (hb:Below w.heap.size w w'):BW w' M G n S R V op dn vo vd :=
  h.of_blocks (fun k hk=>hb.block k (by have:=h.size;omega)) (fun g hg=>hb.block g (h.ownO.lt g hg).2) (fun g hg=>hb.block g (h.ownD.lt g hg).2)
theorem BW.drewN {w:World} {M G n:Nat} {S:Nat→Bool} {R:Nat→List Nat} {V:Nat→Value} {op dn:List Nat} {vo vd:Value} (h:BW w M G n S R V op dn vo vd) (k:Nat):BW (w.drewN k) M G n S R V op dn vo vd :=
  h.of_blocks (fun _ _=>rfl) (fun _ _=>rfl) (fun _ _=>rfl)
theorem BW.congr {w:World} {M G n:Nat} {S S':Nat→Bool} {R:Nat→List Nat} {V:Nat→Value} {op dn:List Nat} {vo vd:Value} (h:BW w M G n S R V op dn vo vd) (e:∀ x,x<n→S x=S' x):BW w M G n S' R V op dn vo vd :=
  ⟨h.nbox,h.gbox,h.dbox,h.obox,h.ebox,h.rbox,h.grow.congr fun x hx=>by rw [e x hx],h.nrow,h.lists,h.ownO,h.ownD,h.apart,h.inR,h.gm⟩
theorem BW.gone {w:World} {M G n:Nat} {S:Nat→Bool} {R:Nat→List Nat} {V:Nat→Value} {op dn:List Nat} {vo vd:Value} (h:BW w M G n S R V op dn vo vd) (b:Nat):BW (w.setCell ⟨M+1,b,none⟩ (.bool true)) M G n (mark S b) R V op dn vo vd:=by
  have hgm:=h.gm;have hk:∀ k,k≠M+1→(w.setCell ⟨M+1,b,none⟩ (.bool true)).heap[k]?=w.heap[k]?:=fun k hk=>Below.heap_setCell _ _ _ _ hk;refine ⟨(hk _ (by omega)).trans h.nbox,(hk _ (by omega)).trans h.gbox,(hk _ (by omega)).trans h.dbox,(hk _ (by omega)).trans h.obox,(hk _ (by omega)).trans h.ebox,(hk _ (by omega)).trans h.rbox,(h.grow.set b (.bool true)).congr fun x hx=>?_,h.nrow.of_block (hk _ (by omega)),fun x hx=>?_,qD h.ownO (fun g hg=>hk g (by have:=(h.ownO.lt g hg).1;omega)),qD h.ownD (fun g hg=>hk g (by have:=(h.ownD.lt g hg).1;omega)),h.apart,h.inR,h.gm⟩
  · unfold mark;split <;> simp_all
  · obtain ⟨A,c,e,hs⟩:=h.lists x hx;exact ⟨A,c,e,SIntsB.go (fun a v hb ha=>(World.cell?_of_block (hk _ (by have:=hb.1;omega))).trans ha) (fun _ hb=>hb) hs⟩
theorem BW.open_ {w w2:World} {M G n:Nat} {S:Nat→Bool} {R:Nat→List Nat} {V:Nat→Value} {op dn op':List Nat} {vo vd vo':Value} (h:BW w M G n S R V op dn vo vd)
    (hk:∀ k,k<M+7→w2.heap[k]?=w.heap[k]?) (hd:∀ g,vd.ownBlock=some g→w2.heap[g]?=w.heap[g]?)
    (hown:w2.ownsRow (M+7) 3 1 vo' op'.length ((zs op').map (Value.int .i64))) (ha:vo'.ownBlock=none∨vo'.ownBlock≠vd.ownBlock):BW (w2.setCell ⟨M+4,0,none⟩ vo') M G n S R V op' dn vo' vd:=by
  have hgm:=h.gm;have hs:∀ k,k≠M+4→(w2.setCell ⟨M+4,0,none⟩ vo').heap[k]?=w2.heap[k]?:=fun k hk=>Below.heap_setCell _ _ _ _ hk;have hk':∀ k,k<M+7→k≠M+4→(w2.setCell ⟨M+4,0,none⟩ vo').heap[k]?=w.heap[k]?:=fun k h1 h2=>(hs k h2).trans (hk k h1)
  refine ⟨(hk' _ (by omega) (by omega)).trans h.nbox,(hk' _ (by omega) (by omega)).trans h.gbox,(hk' _ (by omega) (by omega)).trans h.dbox,qG (i:=0) vo' ((hk _ (by omega)).trans h.obox),(hk' _ (by omega) (by omega)).trans h.ebox,(hk' _ (by omega) (by omega)).trans h.rbox,h.grow.of_block (hk' _ (by omega) (by omega)),h.nrow.of_block (hk' _ (by omega) (by omega)),fun x hx=>?_,
    qD hown (fun g hg=>hs g (by have:=(hown.lt g hg).1;omega)),qD h.ownD (fun g hg=>(hs g (by have:=(h.ownD.lt g hg).1;omega)).trans (hd g hg)),ha,h.inR,h.gm⟩
  obtain ⟨A,c,e,hsl⟩:=h.lists x hx;exact ⟨A,c,e,SIntsB.go (fun a v hb ha=>(World.cell?_of_block (hk' _ (by have:=hb.1;omega) (by have:=hb.1;omega))).trans ha) (fun _ hb=>hb) hsl⟩
theorem BW.done_ {w w2:World} {M G n:Nat} {S:Nat→Bool} {R:Nat→List Nat} {V:Nat→Value} {op dn dn':List Nat} {vo vd vd':Value} (h:BW w M G n S R V op dn vo vd)
    (hk:∀ k,k<M+7→w2.heap[k]?=w.heap[k]?) (ho:∀ g,vo.ownBlock=some g→w2.heap[g]?=w.heap[g]?)
    (hown:w2.ownsRow (M+7) 3 1 vd' dn'.length ((zs dn').map (Value.int .i64))) (ha:vo.ownBlock=none∨vo.ownBlock≠vd'.ownBlock):BW (w2.setCell ⟨M+3,0,none⟩ vd') M G n S R V op dn' vo vd':=by
  have hgm:=h.gm;have hs:∀ k,k≠M+3→(w2.setCell ⟨M+3,0,none⟩ vd').heap[k]?=w2.heap[k]?:=fun k hk=>Below.heap_setCell _ _ _ _ hk;have hk':∀ k,k<M+7→k≠M+3→(w2.setCell ⟨M+3,0,none⟩ vd').heap[k]?=w.heap[k]?:=fun k h1 h2=>(hs k h2).trans (hk k h1)
  refine ⟨(hk' _ (by omega) (by omega)).trans h.nbox,(hk' _ (by omega) (by omega)).trans h.gbox,qG (i:=0) vd' ((hk _ (by omega)).trans h.dbox),(hk' _ (by omega) (by omega)).trans h.obox,(hk' _ (by omega) (by omega)).trans h.ebox,(hk' _ (by omega) (by omega)).trans h.rbox,h.grow.of_block (hk' _ (by omega) (by omega)),h.nrow.of_block (hk' _ (by omega) (by omega)),fun x hx=>?_,
    qD h.ownO (fun g hg=>(hs g (by have:=(h.ownO.lt g hg).1;omega)).trans (ho g hg)),qD hown (fun g hg=>hs g (by have:=(hown.lt g hg).1;omega)),ha,h.inR,h.gm⟩
  obtain ⟨A,c,e,hsl⟩:=h.lists x hx;exact ⟨A,c,e,SIntsB.go (fun a v hb ha=>(World.cell?_of_block (hk' _ (by have:=hb.1;omega) (by have:=hb.1;omega))).trans ha) (fun _ hb=>hb) hsl⟩
theorem BW.next_ {w:World} {M G n b:Nat} {S:Nat→Bool} {R:Nat→List Nat} {V:Nat→Value} {op dn l:List Nat} {vo vd:Value} {A:Option Addr} {c:Nat} (h:BW w M G n S R V op dn vo vd) (hl:∀ t∈l,t<n)
    (hs:SL w 1 (RIntB (fun b=>b<M∧b≠G)) A c (zs l)):BW (w.setCell ⟨G,b,none⟩ (.slice A l.length c)) M G n S (fun x=>if x=b then l else R x) (fun x=>if x=b then .slice A l.length c else V x) op dn vo vd:=by
  have hgm:=h.gm;have hk:∀ k,k≠G→(w.setCell ⟨G,b,none⟩ (.slice A l.length c)).heap[k]?=w.heap[k]?:=fun k hk=>Below.heap_setCell _ _ _ _ hk;have hkb:KeptB (fun y=>y<M∧y≠G) w (w.setCell ⟨G,b,none⟩ (.slice A l.length c)):=fun a v hb ha=>(World.cell?_of_block (hk _ hb.2)).trans ha;refine ⟨(hk _ (by omega)).trans h.nbox,(hk _ (by omega)).trans h.gbox,(hk _ (by omega)).trans h.dbox,(hk _ (by omega)).trans h.obox,(hk _ (by omega)).trans h.ebox,(hk _ (by omega)).trans h.rbox,h.grow.of_block (hk _ (by omega)),h.nrow.set b _,fun x hx=>?_,qD h.ownO (fun g hg=>hk g (by have:=(h.ownO.lt g hg).1;omega)),qD h.ownD (fun g hg=>hk g (by have:=(h.ownD.lt g hg).1;omega)),h.apart,fun x hx=>?_,h.gm⟩
  · by_cases e:x=b
    · simp only [if_pos e];exact ⟨A,c,rfl,SIntsB.go hkb (fun _ hb=>hb) hs⟩
    · simp only [if_neg e];obtain ⟨A',c',e',hs'⟩:=h.lists x hx;exact ⟨A',c',e',SIntsB.go hkb (fun _ hb=>hb) hs'⟩
  · by_cases e:x=b
    · simp only [if_pos e];exact hl
    · simp only [if_neg e];exact h.inR x hx
theorem size_int (w:World):(sizeOf (Try.prog.elem 28)).run Try.prog w=.ok 1 w:=by kernel_rfl
theorem elem_ints:Try.prog.underlying 28=some (.slice (Try.prog.elem 28)):=by kernel_rfl
theorem cut_first {B:Nat→Prop} {w:World} {A:Option Addr} {c:Nat} {x:Int} {xs:List Int} (h:SL w 1 (RIntB B) A c (x::xs)) :
    ∃ A' c',(∀ W,(Instr.slice 28 (.slice A (xs.length+1) c) (some (.int .i64 1)) none none).run Try.prog W=.ok (.slice A' xs.length c') W)∧SL w 1 (RIntB B) A' c' xs:=by
  obtain ⟨h1,⟨h2,_⟩,h3⟩:=h;obtain ⟨b,o,rfl,hx⟩:=h3 (by simp);simp only [List.length_cons] at h1;have hrun:∀ W,(Instr.slice 28 (.slice (some ⟨b,o,none⟩) (xs.length+1) c) (some (.int .i64 1)) none none).run Try.prog W=.ok (sliced (some ⟨b,o,none⟩) 1 (xs.length+1) c 1) W:=fun W=>by
    rw [run_slice_l W 28 (some ⟨b,o,none⟩) (xs.length+1) c elem_ints .i64 1 (by omega) (by omega),size_int];simp [Result.andThen]
  by_cases hc:c=1
  · obtain rfl:xs=[]:=List.length_eq_zero_iff.1 (by omega);refine ⟨some ⟨b,o,none⟩,c - 1,fun W=>(hrun W).trans (by unfold sliced;rw [if_pos hc];simp),Nat.zero_le _,⟨by omega,fun e=>by cases e⟩,fun h=>absurd h (by simp)⟩
  · (refine ⟨some ⟨b,o+1,none⟩,c - 1,fun W=>(hrun W).trans (by unfold sliced;rw [if_neg hc,Option.map_some];unfold Addr.add;simp),by omega,⟨by omega,fun e=>by cases e⟩,fun _=>⟨b,o+1,rfl,fun i y hi=>?_⟩⟩);have:=hx (i+1) y (by simpa using hi)
    rwa [show o+(i+1) * 1=o+1+i * 1 by omega] at this
theorem own_pop {w:World} {base:Nat} {v:Value} {xs:List Nat} {x:Nat} (h:w.ownsRow base 3 1 v (xs++[x]).length ((zs (xs++[x])).map (Value.int .i64))) :
    ∃ g cap,v=.slice (some ⟨g,0,none⟩) (xs.length+1) cap∧w.cell? ⟨g,xs.length,none⟩=some (.int .i64 x)∧xs.length+1≤cap∧cap≤maxLen ∧
      (∀ W,(Instr.slice 28 (.slice (some ⟨g,0,none⟩) (xs.length+1) cap) none (some (.int .i64 xs.length)) none).run Try.prog W=.ok (.slice (some ⟨g,0,none⟩) xs.length cap) W) ∧
      w.ownsRow base 3 1 (.slice (some ⟨g,0,none⟩) xs.length cap) xs.length ((zs xs).map (Value.int .i64)):=by
  (have hl:(xs++[x]).length=xs.length+1:=by simp);have h0:=h;obtain ⟨h1,⟨-,h2⟩ | ⟨g,cap,cur,rfl,hb,hh,hn,hc,hsz,ht⟩⟩:=h
  · rw [hl] at h2;omega
  · rw [hl] at hn ht;refine ⟨g,cap,by rw [hl],?_,hn,hc,fun W=>?_,⟨by simp [zs],.inr ⟨g,cap,cur,rfl,hb,hh,by omega,hc,hsz,?_⟩⟩⟩
    · have:=h0.cells (g:=g) rfl xs.length (.int .i64 x) (by simp [zs])
      rwa [show (⟨g,0,none⟩:Addr).add xs.length=⟨g,xs.length,none⟩ by unfold Addr.add;split <;> simp_all] at this
    · rw [run_slice_h W 28 (some ⟨g,0,none⟩) (xs.length+1) cap elem_ints .i64 xs.length (by omega) (by omega),size_int];(have hc0:cap≠0:=by omega);simp [Result.andThen,sliced,hc0,Addr.add]
    · (have:cur.toList.take (xs.length * 1)=(cur.toList.take ((xs.length+1) * 1)).take xs.length:=by rw [List.take_take];congr 1;omega);rw [this,ht,zs_snoc,List.map_append,List.take_left' (by simp [zs])]
def ToldB (M G n:Nat) (S:Nat→Bool) (R:Nat→List Nat) (V:Nat→Value) (op dn:List Nat) (vd:Value) (w:World) (e:Ending) (w':World):Prop :=
  e=.returned (.tuple #[])∧(∃ vo',BW w' M G n S R V op dn vo' vd)∧BB M G w w'
set_option maxHeartbeats 4000000 in
theorem enterG_any (M G n b:Nat) (S:Nat→Bool) (R:Nat→List Nat) (V:Nat→Value) (op dn:List Nat) (vo vd:Value) (w:World) (h:BW w M G n S R V op dn vo vd) (hb:b<n) (hn:n≤1000000) (ho:op.length≤1000000) :
    Calls Try.prog 72 #[.int .i64 b,.pointer (some ⟨M+2,0,none⟩),.pointer (some ⟨M+4,0,none⟩)] w (ToldB M G n (mark S b) R V (op++[b]) dn vd w):=by
  obtain ⟨i0,hi,hz0,hz1,hz2⟩:=info_parts Try.info3;have HI:=Lib.hid (And.intro hi (And.intro hz0 (And.intro hz1 hz2)));clear hi hz0 hz1 hz2;have hM:=h.size;have hgm:=h.gm;have c1:w.cell? ⟨M+2,0,none⟩=some (.slice (some ⟨M+1,0,none⟩) n n):=q5 h.gbox 0;have c2:=h.grow.cell hb;have f2:=h.grow.frozen b;have hg:=h.gone b
  (have hbb:BB M G w (w.setCell ⟨M+1,b,none⟩ (.bool true)):=(BB.refl M G w).setCell (.inr (by show M≤M+1;omega)) _);(have hz:(w.setCell ⟨M+1,b,none⟩ (.bool true)).heap.size=w.heap.size:=by simp);have HH:=Lib.hid h;clear h;(go_enter Try.func72,Try.ntmps72);(go_upto_region 1 with fail);clear c1 c2 f2;generalize w.setCell ⟨M+1,b,none⟩ (.bool true)=w1 at *;have hM1:M+6<w1.heap.size:=by omega
  have c3:w1.cell? ⟨M+4,0,none⟩=some vo:=q5 hg.obox 0;have HBB:=Lib.hid hbb;have HZ:=Lib.hid hz;clear hbb hz;go_wp2_with (at_builtin;refine wpList_append_lies _ rfl (.tmp 7) (.tmp 9) 28 rfl (M+7) 3 i0 (.int .i64 0) 1 8 Try.underlying28 HI.out.1 HI.out.2.1 HI.out.2.2.1 HI.out.2.2.2 rfl (by decide) vo _ _ rfl (hg.ownO.alloc _) ⟨w1.heap.size,0,none⟩ 1 1 [.int .i64 b] rfl rfl ?c1 ?c2 ?c0 ?c3 ?c4 ?c5 (w1.heap.size+1) ?c6 ?_)
  case c1=>exact qR w1 _ _ rfl
  case c2=>exact ints_oneCell .i64 [(b:Int)]
  case c0=>omega
  case c3=>unfold maxLen;omega
  case c4=>omega
  case c5=>simp;omega
  case c6=>simp
  intro g cap w2 hown hgrow hloc hlt;(have hk:∀ k,k<w1.heap.size→some k≠vo.ownBlock→w2.heap[k]?=w1.heap[k]?:=fun k hk hne=>(hgrow.block k (by simp;omega) hne).trans (Below.heap_alloc _ _ _ hk));have hlow:∀ k,k<M+7→w2.heap[k]?=w1.heap[k]?:=fun k hk'=>hk k (by omega) (fun e=>by have:=(hg.ownO.lt k e.symm).1;omega)
  have hnew:=hg.open_ (op':=op++[b]) (vo':=.slice (some ⟨g,0,none⟩) (op.length+1) cap) hlow (fun x hx=>hk x (hg.ownD.lt x hx).2 (fun e=>by
      rcases hg.apart with h | h
      · rw [h] at e;cases e
      · exact h (e.symm.trans hx.symm))) (by simpa [zs] using hown) (by
    right;intro e;(have hgd:vd.ownBlock=some g:=by rw [← e];rfl);rcases hloc with h | h
    · rcases hg.apart with h2 | h2
      · rw [h] at h2;cases h2
      · exact h2 (h.trans hgd.symm)
    · have:=(hg.ownD.lt g hgd).2;omega)
  have c4:w2.cell? ⟨M+4,0,none⟩=some vo:=(World.cell?_of_block (a:=⟨M+4,0,none⟩) (hlow (M+4) (by omega))).trans c3;have f4:w2.frozen? ⟨M+4,0,none⟩=false:=q8 ((hlow (M+4) (by omega)).trans hg.obox) 0;(have hbb2:BB M G w w2:=(HBB.out.alloc (by have:=HZ.out;omega) _).grown hgrow (by have:=HZ.out;simp;omega) (fun k hk=>.inr (by have:=(hg.ownO.lt k hk).1;omega)));have HN:=Lib.hid hnew;have HB2:=Lib.hid hbb2;clear hown hgrow hloc hk hlow hnew hbb2 hg c3;(go_wp2_with fail);(go_end0);exact ⟨rfl,⟨_,HN.out⟩,HB2.out.setCell (.inr (by show M≤M+4;omega)) _⟩
def ToldG (M G n:Nat) (nx:Nat→List Nat) (b:Nat) (S:Nat→Bool) (R:Nat→List Nat) (op:List Nat) (s':DS) (w:World) (e:Ending) (w':World):Prop :=
  e=.returned (.tuple #[])∧∃ (R':Nat→List Nat) (V':Nat→Value) (vo' vd':Value),BW w' M G n s'.seen R' V' op s'.out vo' vd'∧(∀ x,x<n→s'.seen x=false→R' x=nx x)∧(∀ x,x<n→S x=true→x≠b→R' x=R x)∧BB M G w w'
def lenAt (G b:Nat) (w:World):Nat:=match w.cell? ⟨G,b,none⟩ with
  | some (.slice _ m _)=>m
  | _=>0
theorem lenAt_of {G b m:Nat} {w:World} {A:Option Addr} {c:Nat} (h:w.cell? ⟨G,b,none⟩=some (.slice A m c)):lenAt G b w=m:=by unfold lenAt;rw [h]
def GoOn (M G n F:Nat) (nx:Nat→List Nat):Prop:=∀ (b deep:Nat) (l:List Nat) (S:Nat→Bool) (R:Nat→List Nat) (V:Nat→Value) (op dn:List Nat) (vo vd:Value) (w:World),
  BW w M G n S R V (op++[b]) dn vo vd→b<n→S b=true→R b=l→(∀ x,x<n→S x=false→R x=nx x)→qQ n S≤F→deep+F<4096→op.length+F≤900000→dn.length+qQ n S≤900000 →
  Calls Try.prog 73 #[.int .i64 b,.int .i64 deep,.pointer (some ⟨M,0,none⟩),.pointer (some ⟨M+2,0,none⟩),.pointer (some ⟨M+5,0,none⟩),.pointer (some ⟨M+6,0,none⟩),.pointer (some ⟨M+4,0,none⟩),.pointer (some ⟨M+3,0,none⟩)] w
    (ToldG M G n nx b S R op (rest nx F b l ⟨S,dn⟩) w)
set_option maxRecDepth 100000 in
set_option maxHeartbeats 8000000 in
theorem goOn_step (M G n F:Nat) (nx:Nat→List Nat) (hn:n≤1000000) (hnx:∀ x,∀ t∈nx x,t<n) (ih:∀ F',F=F'+1→GoOn M G n F' nx):GoOn M G n F nx:=by
  intro b deep l S R V op dn vo vd w h hb hSb hRb hun hF hdeep hop hdn;obtain ⟨i0,hi,hz0,hz1,hz2⟩:=info_parts Try.info3;have HI:=Lib.hid (And.intro hi (And.intro hz0 (And.intro hz1 hz2)));clear hi hz0 hz1 hz2;have HIH:=Lib.hid ih;have H0:=Lib.hid h;have HUN:=Lib.hid hun;have HSB:=Lib.hid hSb;have HRB:=Lib.hid hRb
  (have hd1:(deep:Int)<4096:=by omega);(have hd2:((deep:Int) == 4096)=false:=by simp;omega);have HF:=Lib.hid hF;have HDN:=Lib.hid hdn;clear ih h hun hSb hRb hF hdn;(go_enter Try.func73,Try.ntmps73);go_wp2_with fail
  go_loopw [] (fun wr=>∃ (l':List Nat) (S':Nat→Bool) (R':Nat→List Nat) (V':Nat→Value) (vo' vd':Value) (dn':List Nat),BW wr M G n S' R' V' (op++[b]) dn' vo' vd'∧R' b=l'∧S' b=true∧(∀ x,x<n→S' x=false→R' x=nx x)∧qQ n S'≤F∧dn'.length+qQ n S'≤900000 ∧
    rest nx F b l' ⟨S',dn'⟩=rest nx F b l ⟨S,dn⟩∧(∀ x,x<n→S x=true→x≠b→R' x=R x)∧(∀ x,S x=true→S' x=true)∧BB M G w wr) (fun wr=>lenAt G b wr)
  case atStart=>exact ⟨l,S,R,V,vo,vd,dn,H0.out,HRB.out,HSB.out,HUN.out,HF.out,HDN.out,rfl,fun _ _ _ _=>rfl,fun _ h=>h,BB.refl _ _ _⟩
  case round =>
    obtain ⟨l',S',R',V',vo',vd',dn',hw,hR,hSb,hun,hF,hdn,hrest,hold,hgrow,hbb⟩:=hrel;have HUN':=Lib.hid hun;have HF':=Lib.hid hF;have HDN':=Lib.hid hdn;have HREST:=Lib.hid hrest;have HOLD:=Lib.hid hold;have HGROW:=Lib.hid hgrow;have HBB:=Lib.hid hbb;have HSB':=Lib.hid hSb
    clear hun hF hdn hrest hold hgrow hbb hSb HUN HSB HRB HF HDN H0;have hM:=hw.size;have hgm:=hw.gm;obtain ⟨A,c,hv,hs⟩:=hw.lists b hb;rw [hR] at hv hs;have hrow:=hw.nrow.cell hb;rw [hv] at hrow;have hnb:wr.cell? ⟨M,0,none⟩=some (.slice (some ⟨G,0,none⟩) n n):=q5 hw.nbox 0;have hlen:=hs.len
    rw [qP] at hlen;cases l' with
    | nil =>
      obtain ⟨g,cap,hvo,hlast,hcap,hcm,hpop,hown⟩:=own_pop hw.ownO;subst hvo;have c4:wr.cell? ⟨M+4,0,none⟩=some (.slice (some ⟨g,0,none⟩) (op.length+1) cap):=q5 hw.obox 0;have f4:wr.frozen? ⟨M+4,0,none⟩=false:=q8 hw.obox 0;have hnew:=hw.open_ (op':=op) (vo':=.slice (some ⟨g,0,none⟩) op.length cap) (fun _ _=>rfl) (fun _ _=>rfl) hown hw.apart;(have hb1:BB M G wr (wr.setCell ⟨M+4,0,none⟩ (.slice (some ⟨g,0,none⟩) op.length cap)):=(BB.refl M G wr).setCell (.inr (by show M≤M+4;omega)) _);(have hz1:M+6<(wr.setCell ⟨M+4,0,none⟩ (.slice (some ⟨g,0,none⟩) op.length cap)).heap.size:=by simpa using hM);(have hl1:(op.length:Int)≤cap:=by omega);have hop0:op.length<1000000:=by omega
      simp only [List.length_nil] at hrow;clear hlast hown hcap hw hs hv;(go_upto_region 9 with fail);clear hrow hnb c4 f4 hpop;generalize wr.setCell ⟨M+4,0,none⟩ (.slice (some ⟨g,0,none⟩) op.length cap)=w1 at *;have c3:w1.cell? ⟨M+3,0,none⟩=some vd':=q5 hnew.dbox 0;(have HDL:Hid (dn'.length≤900000):=Lib.hid (by have:=HDN'.out;omega));go_wp2_with (at_builtin;refine wpList_append_lies _ rfl (.tmp 58) (.tmp 60) 28 rfl (M+7) 3 i0 (.int .i64 0) 1 8 Try.underlying28 HI.out.1 HI.out.2.1 HI.out.2.2.1 HI.out.2.2.2 rfl (by decide) vd' _ _ rfl (hnew.ownD.alloc _) ⟨w1.heap.size,0,none⟩ 1 1 [.int .i64 b] rfl rfl ?c1 ?c2 ?c0 ?c3 ?c4 ?c5 (w1.heap.size+1) ?c6 ?_)
      case c1=>exact qR w1 _ _ rfl
      case c2=>exact ints_oneCell .i64 [(b:Int)]
      case c0=>omega
      case c3=>have:=HDL.out;unfold maxLen;omega
      case c4=>have:=HDL.out;omega
      case c5=>simp;omega
      case c6=>simp
      intro g2 cap2 w2 hown2 hgrow hloc hlt;(have hk:∀ k,k<w1.heap.size→some k≠vd'.ownBlock→w2.heap[k]?=w1.heap[k]?:=fun k hk hne=>(hgrow.block k (by simp;omega) hne).trans (Below.heap_alloc _ _ _ hk));have hlow:∀ k,k<M+7→w2.heap[k]?=w1.heap[k]?:=fun k hk'=>hk k (by omega) (fun e=>by have:=(hnew.ownD.lt k e.symm).1;omega)
      have hfin:=hnew.done_ (dn':=dn'++[b]) (vd':=.slice (some ⟨g2,0,none⟩) (dn'.length+1) cap2) hlow (fun x hx=>hk x (hnew.ownO.lt x hx).2 (fun e=>by
          rcases hnew.apart with h | h
          · rw [h] at hx;cases hx
          · exact h (hx.trans e))) (by simpa [zs] using hown2) (by
        right;intro e;have hgo:(Value.slice (some ⟨g,0,none⟩) op.length cap).ownBlock=some g2:=e;rcases hloc with h | h
        · rcases hnew.apart with h2 | h2
          · rw [h2] at hgo;cases hgo
          · exact h2 (hgo.trans h.symm)
        · have:=(hnew.ownO.lt g2 hgo).2;omega)
      have d3:w2.cell? ⟨M+3,0,none⟩=some vd':=(World.cell?_of_block (a:=⟨M+3,0,none⟩) (hlow (M+3) (by omega))).trans c3;have f3:w2.frozen? ⟨M+3,0,none⟩=false:=q8 ((hlow (M+3) (by omega)).trans hnew.dbox) 0;(have hbb2:BB M G w w2:=((HBB.out.trans hb1).alloc (by omega) _).grown hgrow (by simp;omega) (fun k hk=>.inr (by have:=(hnew.ownD.lt k hk).1;omega)));have HN:=Lib.hid hfin;have HB2:=Lib.hid hbb2;clear hown2 hgrow hloc hk hlow hfin hbb2 hnew c3 hb1;(go_wp2_with fail);(go_end0);refine ⟨rfl,R',V',.slice (some ⟨g,0,none⟩) op.length cap,.slice (some ⟨g2,0,none⟩) (dn'.length+1) cap2,?_,?_,HOLD.out,HB2.out.setCell (.inr (by show M≤M+3;omega)) _⟩
      · rw [← HREST.out,rest_nil];exact HN.out
      · rw [← HREST.out,rest_nil];exact HUN'.out
    | cons t l' =>
      obtain ⟨A',c',hcut,hs'⟩:=cut_first (x:=(t:Int)) (xs:=zs l') hs;obtain ⟨b1,o1,x,rfl,hx,hxb,hxc,hx64⟩:=hs.at_ (k:=0) (by simp [zs]);(obtain rfl:x=(t:Int):=by have:=hx.out;simp [zs] at this;exact this.symm);rw [Nat.zero_mul,Nat.add_zero] at hxc;rw [qP] at hcut;have hfr:=hw.nrow.frozen b;(have htn:t<n:=hw.inR b hb t (by rw [hR];simp));obtain ⟨w1,hw1⟩:∃ w1,w1=(wr.setCell ⟨G,b,none⟩ (.slice A' l'.length c')).drew:=⟨_,rfl⟩;have hnew:BW w1 M G n S' (fun x=>if x=b then l' else R' x) (fun x=>if x=b then .slice A' l'.length c' else V' x) (op++[b]) dn' vo' vd':=by
        rw [hw1];exact (hw.next_ (b:=b) (l:=l') (A:=A') (c:=c') (fun y hy=>hw.inR b hb y (by rw [hR];simp [hy])) hs').drewN 1
      (have hb1:BB M G wr w1:=by rw [hw1];exact ((BB.refl M G wr).setCell (.inl rfl) _).drew);(have hz1:M+6<w1.heap.size:=by rw [hw1];simpa [World.drew] using hM);have HLN:Hid (lenAt G b wr=l'.length+1):=Lib.hid (lenAt_of hrow);simp only [List.length_cons] at hrow hlen;(have hbn:(b:Int)<n:=by omega);(have hb0:(0:Int)≤b:=by omega);(have hc0:(0:Int)<((l'.length:Int)+1):=by omega);clear hw hs hv hs' hx hxb;go_upto_region 3 with fail
      (go_still_tail 8,(by kernel_rfl));change wpList _ _ _ _ _ wr.drew;(go_upto_region 4 with fail);rw [← hw1];clear hw1 hrow hnb hfr hcut hxc hlen hM;have HNEW:=Lib.hid hnew;have HBB1:Hid (BB M G w w1):=Lib.hid (HBB.out.trans hb1);have hgb:w1.cell? ⟨M+2,0,none⟩=some (.slice (some ⟨M+1,0,none⟩) n n):=q5 hnew.gbox 0;have hgt:=hnew.grow.cell htn
      (have ht0:(0:Int)≤t:=by omega);(have ht1:(t:Int)<n:=by omega);cases hst:S' t
      · rw [hst] at hgt;have HST:=Lib.hid hst;have heb:w1.cell? ⟨M+5,0,none⟩=some (.func (.func 72) #[] #[.pointer (some ⟨M+2,0,none⟩),.pointer (some ⟨M+4,0,none⟩)]):=q5 hnew.ebox 0;have hpos:0<qQ n S':=unseen_pos hst htn;(have hopl:(op++[b]).length≤1000000:=by simp;omega);(obtain ⟨F',hF'⟩:∃ F',F=F'+1:=⟨F - 1,by have:=HF'.out;omega⟩);have HFF:=Lib.hid hF';have HPOS:=Lib.hid hpos;have HOPL:=Lib.hid hopl
        clear hst hpos hF' hnew hb1 hopl;(go_wp2_with fail);refine (enterG_any M G n t _ _ _ _ _ _ _ w1 HNEW.out htn hn HOPL.out).mono ?_;rintro e w2 ⟨rfl,⟨vo2,hw2⟩,hbb2⟩;have hrb:w2.cell? ⟨M+6,0,none⟩=some (.func (.func 73) #[] #[.pointer (some ⟨M,0,none⟩),.pointer (some ⟨M+2,0,none⟩),.pointer (some ⟨M+5,0,none⟩),.pointer (some ⟨M+6,0,none⟩),.pointer (some ⟨M+4,0,none⟩),.pointer (some ⟨M+3,0,none⟩)]):=q5 hw2.rbox 0;have HW2:=Lib.hid hw2;have HBB2:Hid (BB M G w w2):=Lib.hid (HBB1.out.trans hbb2);clear hgt hgb heb hw2 hbb2;have htb:t≠b:=fun e=>by have h1:=HST.out;rw [e,HSB'.out] at h1;cases h1
        have HTB:=Lib.hid htb;have hum:=unseen_mark HST.out htn
        have HC:Hid (Calls Try.prog 73 #[.int .i64 t,.int .i64 ((deep:Int)+1),.pointer (some ⟨M,0,none⟩),.pointer (some ⟨M+2,0,none⟩),.pointer (some ⟨M+5,0,none⟩),.pointer (some ⟨M+6,0,none⟩),.pointer (some ⟨M+4,0,none⟩),.pointer (some ⟨M+3,0,none⟩)] w2 (ToldG M G n nx t (mark S' t) (fun x=>if x=b then l' else R' x) (op++[b]) (rest nx F' t (nx t) ⟨mark S' t,dn'⟩) w2)):=Lib.hid (by
          have:=HIH.out F' HFF.out t (deep+1) (nx t) (mark S' t) (fun x=>if x=b then l' else R' x) _ (op++[b]) dn' vo2 vd' w2 HW2.out htn (mark_same _ _) (by rw [if_neg htb];exact HUN'.out t htn HST.out)
            (fun x hx hm=>by
              have hxs:S' x=false:=by
                cases h:S' x
                · rfl
                · rw [mark_of h] at hm;cases hm
              rw [if_neg (fun e=>by rw [e,HSB'.out] at hxs;cases hxs)];exact HUN'.out x hx hxs)
            (by have:=HF'.out;have:=HFF.out;omega) (by have:=HFF.out;omega) (by have:=HFF.out;simp;omega) (by have:=HDN'.out;omega)
          rwa [show (((deep+1:Nat):Int))=(deep:Int)+1 by push_cast;rfl] at this)
        have HVIS:Hid (rest nx F' t (nx t) ⟨mark S' t,dn'⟩=visit nx F t ⟨S',dn'⟩):=Lib.hid (by rw [HFF.out,visit_succ]);clear htb hum;(go_wp2_with fail);refine HC.out.mono ?_;rintro e w3 ⟨rfl,R'',V'',vo'',vd'',hw3,hun3,hold3,hbb3⟩;have HLV:=Lib.hid (len_visit hnx F t ⟨S',dn'⟩ htn HST.out HF'.out)
        have HGV:Hid (∀ x,S' x=true→(visit nx F t ⟨S',dn'⟩).seen x=true):=Lib.hid (by
          obtain ⟨e,he,_⟩:=went_visit hnx F t ⟨S',dn'⟩ htn HST.out HF'.out
          exact he.grows)
        rw [← HVIS.out] at HLV HGV;have HVIS2:Hid (rest nx F b l' (rest nx F' t (nx t) ⟨mark S' t,dn'⟩)=rest nx F b l ⟨S,dn⟩):=Lib.hid (by rw [← HREST.out,rest_new _ _ _ _ _ _ HST.out,HVIS.out]);generalize rest nx F' t (nx t) ⟨mark S' t,dn'⟩=s' at *;have HUN3:=Lib.hid hun3;have HOLD3:=Lib.hid hold3;have HBB3:=Lib.hid hbb3;have HW3:=Lib.hid hw3;obtain ⟨g3,cap3,hvo3,hlast3,hcap3,hcm3,-,-⟩:=own_pop hw3.ownO;subst hvo3
        have hob:w3.cell? ⟨M+4,0,none⟩=some (.slice (some ⟨g3,0,none⟩) (op.length+1) cap3):=q5 hw3.obox 0;(have hbb':((b:Int) != b)=false:=by simp);(have hop0:op.length<1000000:=by omega);have hRb:R'' b=l':=by
          have:=HOLD3.out b hb (mark_of HSB'.out) (fun e=>HTB.out e.symm);rw [this];simp
        have HRB:=Lib.hid hRb
        have hln:Hid (lenAt G b w3<lenAt G b wr):=Lib.hid (by
          obtain ⟨A3,c3,e3,-⟩:=hw3.lists b hb;have h1:=hw3.nrow.cell hb;rw [e3,hRb] at h1
          rw [HLN.out,lenAt_of h1];omega)
        clear hw3 hun3 hold3 hbb3 hrb hRb HC;go_wp2_with fail
        go_roundw
        case rel=>exact ⟨l',s'.seen,R'',V'',_,vd'',s'.out,HW3.out,HRB.out,HGV.out b HSB'.out,HUN3.out,by have:=HLV.out.2;omega,by have:=HLV.out.1;have:=HDN'.out;exact Nat.le_trans (Nat.le_of_eq HLV.out.1) HDN'.out,HVIS2.out,
          fun x hx h1 h2=>by
            rw [HOLD3.out x hx (mark_of (HGROW.out x h1)) (fun e=>by have h3:=HST.out;rw [← e,HGROW.out x h1] at h3;cases h3),if_neg h2];exact HOLD.out x hx h1 h2,
          fun x h1=>HGV.out x (HGROW.out x h1),HBB2.out.trans HBB3.out⟩
        case measure=>exact hln.out
      · rw [hst] at hgt;have HST:=Lib.hid hst
        have hln:Hid (lenAt G b w1<lenAt G b wr):=Lib.hid (by
          have h1:=hnew.nrow.cell hb;simp only [if_true] at h1
          rw [HLN.out,lenAt_of h1];omega)
        have HREST2:Hid (rest nx F b l' ⟨S',dn'⟩=rest nx F b l ⟨S,dn⟩):=Lib.hid (by rw [← HREST.out,rest_seen _ _ _ _ _ _ hst]);clear hst hnew hb1;go_wp2_with fail
        go_roundw
        case rel=>exact ⟨l',S',_,_,vo',vd',dn',HNEW.out,by simp,HSB'.out,fun x hx hs=>by
            rw [if_neg (fun e=>by rw [e,HSB'.out] at hs;cases hs)];exact HUN'.out x hx hs,HF'.out,HDN'.out,HREST2.out,fun x hx h1 h2=>by rw [if_neg h2];exact HOLD.out x hx h1 h2,HGROW.out,HBB1.out⟩
        case measure=>exact hln.out
theorem goOn_any (M G n:Nat) (nx:Nat→List Nat) (hn:n≤1000000) (hnx:∀ x,∀ t∈nx x,t<n):∀ F:Nat,GoOn M G n F nx
  | 0=>goOn_step M G n 0 nx hn hnx (fun F' h=>by omega)
  | F+1=>goOn_step M G n (F+1) nx hn hnx (fun F' h=>by (obtain rfl:F=F':=by omega);exact goOn_any M G n nx hn hnx F)
end Go.Proofs.Ytfoggldjjnabcaa

namespace Go.Proofs.Ytfoggldjjnabcaa
theorem Try.info4:(Try.prog.info? 4).map (fun i=>(i.zero,i.size,i.bytes))=some (some (.bool false),1,1):=by kernel_rfl
end Go.Proofs.Ytfoggldjjnabcaa
