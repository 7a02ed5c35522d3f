/- The program's Next. No condition. -/
import Derived.Test.YtfoggldjjnabcaaGreatDoorGrNmJ
import Derived.Test.YtfoggldjjnabcaaGreatDoorInsBJ
import Derived.StillTailTactics
import Derived.OrdersHeld
import Derived.RegionTactic
import Derived.Lib.Hide
namespace Go.Proofs.YtfoggldjjnabcaaGreatDoor
open Go.ChangeShapes Go.WideShapes Go.RowKit Go.Deep
set_option linter.unusedVariables false
theorem isBlock_any (f:FunD) (v:Value) (a:Int) (w:World) (hv:VFun w v f) :
    Calls Tryz.prog 122 #[v,.int .i64 a] w fun e w'=>e=.returned (.bool (isAtB a f.blocks.length))∧Below w.heap.size w w':=by
  obtain ⟨Ar,cr,A,c,rfl,-,hb,-,-⟩:=hv;have hbl:=hb.len
  by_cases h0:0≤a
  · by_cases h1:a<f.blocks.length
    · have e:isAtB a f.blocks.length=true:=decide_eq_true ⟨h0,h1⟩;rw [e];clear e;(go_enter Tryz.func122,Tryz.ntmps122);(go_wp2_with fail);(go_ret);exact ⟨rfl,(Below.refl _ _).alloc (Nat.le_refl _) _⟩
    · have e:isAtB a f.blocks.length=false:=decide_eq_false (by omega);have h2:decide (a<(f.blocks.length:Int))=false:=decide_eq_false h1;rw [e];clear e h1;(go_enter Tryz.func122,Tryz.ntmps122);(go_wp2_with fail);(go_ret);exact ⟨rfl,(Below.refl _ _).alloc (Nat.le_refl _) _⟩
  · have e:isAtB a f.blocks.length=false:=decide_eq_false (by omega);rw [e];clear e;(go_enter Tryz.func122,Tryz.ntmps122);(go_wp2_with fail);(go_ret);exact ⟨rfl,(Below.refl _ _).alloc (Nat.le_refl _) _⟩
set_option maxRecDepth 100000 in
set_option maxHeartbeats 4000000 in
theorem next_any (f:FunD) (v:Value) (w:World) (hv:VFun w v f) (hn:f.blocks.length≤1000000) :
    Calls Tryz.prog 90 #[v] w fun e w'=>(∃ V G,e=.returned (.slice (some ⟨G,0,none⟩) f.blocks.length f.blocks.length)∧w.heap.size≤G∧Gri w' G (G+2) f.blocks.length V (fun i=>zs (nxF f.blocks i)))∧Below w.heap.size w w':=by
  obtain ⟨Ar,cr,A,c,rfl,hr,hb,hp64,hr64⟩:=hv;have hbl:=hb.len;obtain ⟨i0,hi,hz0,hz1,hz2⟩:=info_parts Tryz.info3;have HI:=Lib.hid (And.intro hi (And.intro hz0 (And.intro hz1 hz2)));clear hi hz0 hz1 hz2;have hmk:=run_make_row' (P:=Tryz.prog) 65 27 (.slice none 0 0) 24 Tryz.underlying65 Tryz.info27 rfl .i64 .i64 f.blocks.length (by omega) (by omega);have hmk2:=run_make_row' (P:=Tryz.prog) 27 3 (.int .i64 0) 8 Tryz.underlying27 Tryz.info3 rfl .i64 .i64 f.blocks.length (by omega) (by omega);have HP:=Lib.hid hp64;have HR:=Lib.hid hr64
  clear hp64 hr64;(go_enter Tryz.func90,Tryz.ntmps90);(go_wp2_with fail);clear hmk hmk2;obtain ⟨w1,hw1,hs1,hk1,hbel1,hc1,-⟩:=named w #[.int .i64 f.params,.int .i64 f.result,.slice Ar f.regs.length cr,.slice A f.blocks.length c] 30;have c0:=hc1 0 _ rfl;have c1:=hc1 1 _ rfl;have c2:=hc1 2 _ rfl;have c3:=hc1 3 _ rfl
  rw [← hw1];clear hw1 hc1;obtain ⟨N,hN⟩:∃ N,N=w.heap.size:=⟨_,rfl⟩;rw [← hN] at c0 c1 c2 c3 hs1 hbel1 ⊢;have hgr:=(Gri.made w1 (N+1) (N+1+2) f.blocks.length hs1.symm (by omega)).alloc (.cells (madeCells #[.int .i64 0] f.blocks.length) 3);have hla:((w1.alloc (.cells (madeCells #[.slice none 0 0] f.blocks.length) 27)).alloc (.cells (madeCells #[.int .i64 0] f.blocks.length) 3)).rowIs (N+1+1) 3 f.blocks.length (fun i=>.int .i64 ((fun _=>(0:Int)) i)):=by
    have:=World.rowIs_made (w1.alloc (.cells (madeCells #[.slice none 0 0] f.blocks.length) 27)) (.int .i64 0) f.blocks.length 3;simpa [hs1] using this
  (have hbel1':Below (N+1) w1 ((w1.alloc (.cells (madeCells #[.slice none 0 0] f.blocks.length) 27)).alloc (.cells (madeCells #[.int .i64 0] f.blocks.length) 3)):=((Below.refl _ _).alloc (by omega) _).alloc (by simp;omega) _);(have hs2:N+1+1<((w1.alloc (.cells (madeCells #[.slice none 0 0] f.blocks.length) 27)).alloc (.cells (madeCells #[.int .i64 0] f.blocks.length) 3)).heap.size:=by simp;omega);generalize (w1.alloc (.cells (madeCells #[.slice none 0 0] f.blocks.length) 27)).alloc (.cells (madeCells #[.int .i64 0] f.blocks.length) 3)=w2 at *;have HS1:=Lib.hid hs1;have HN:=Lib.hid hN;have hvf:VFun w1 (.agg #[.int .i64 f.params,.int .i64 f.result,.slice Ar f.regs.length cr,.slice A f.blocks.length c]) f:=⟨Ar,cr,A,c,rfl,SInts.keep hk1 hr,SBlks.keep hk1 hb,HP.out,HR.out⟩;clear hs1 hN hr
  go_loopw [20] (fun i wr=>∃ (k:Nat) (V:Nat→Value) (la:Nat→Int),k≤f.blocks.length∧i=.int .i64 k∧Below (N+1) w1 wr∧N+1+1<wr.heap.size∧Gri wr (N+1) (N+1+2) f.blocks.length V (NX f.blocks k [])∧wr.rowIs (N+1+1) 3 f.blocks.length (fun i=>.int .i64 (la i))∧LastOk la f.blocks.length k (nextN f.blocks.length [])) (fun i _=>f.blocks.length - (intOf i).toNat)
  case atStart=>exact ⟨0,_,_,Nat.zero_le _,rfl,hbel1',hs2,hgr.congr fun i _=>(NX_zero _ _).symm,hla,LastOk.start _⟩
  case round =>
    obtain ⟨k,V,la,hk,rfl,hbel,hs,hg,hl,hlo⟩:=hrel;obtain ⟨wo,rfl⟩:∃ wo,wo=wr:=⟨wr,rfl⟩;(have hkw:Kept w1 wo:=kept_below hbel (by have:=HS1.out;omega));have c3o:=hkw _ _ c3
    by_cases hlt:k<f.blocks.length
    · obtain ⟨b,o,kb,rfl,hkb,⟨Ap,cp,hphi,-⟩,⟨Ai,ci,hins,-⟩,⟨hkd,-⟩,⟨har,-⟩,⟨At,ct,hto,htos⟩⟩:=(SBlks.keep hk1 hb).at_ hlt;have hphi:=hkw _ _ hphi;have hins:=hkw _ _ hins;have hkd:=hkw _ _ hkd;have har:=hkw _ _ har;have hto:=hkw _ _ hto;have htl:=htos.len;(go_wp2_with fail);clear hphi hins hkd har hto
      obtain ⟨w3,hw3,hs3,hk3,hbel3,-,-⟩:=named wo #[.slice Ap kb.phis.length cp,.slice Ai kb.ins.length ci,.int .i64 kb.term.kind,.int .i64 kb.term.arg,.slice At kb.term.to.length ct] 51;have hg3:Gri w3 (N+1) (N+1+2) f.blocks.length V (NX f.blocks k (kb.term.to.take 0)):=by
        rw [hw3,List.take_zero];exact hg.alloc _
      (have hl3:w3.rowIs (N+1+1) 3 f.blocks.length (fun i=>.int .i64 (la i)):=by rw [hw3];exact hl.alloc _);have hb3:Below (N+1) w1 w3:=hbel.trans (hbel3.mono (by omega));(have hs3:N+1+1<w3.heap.size:=by omega);rw [← hw3];clear hw3
      go_loopw [29] (fun i wr=>∃ (j:Nat) (V:Nat→Value) (la:Nat→Int),j≤kb.term.to.length∧i=.int .i64 j∧Below (N+1) w1 wr∧N+1+1<wr.heap.size∧Gri wr (N+1) (N+1+2) f.blocks.length V (NX f.blocks k (kb.term.to.take j))∧wr.rowIs (N+1+1) 3 f.blocks.length (fun i=>.int .i64 (la i))∧LastOk la f.blocks.length k (nextN f.blocks.length (kb.term.to.take j))) (fun i _=>kb.term.to.length - (intOf i).toNat)
      case atStart=>exact ⟨0,V,la,Nat.zero_le _,rfl,hb3,hs3,hg3,hl3,by rw [List.take_zero];exact hlo⟩
      case round =>
        obtain ⟨j,V',la',hj,rfl,hbelr,hsr,hgr',hlr,hlor⟩:=hrel;(have hkr:Kept w1 wr:=kept_below hbelr (by have:=HS1.out;omega));have c0r:=hkr _ _ c0;have c1r:=hkr _ _ c1;have c2r:=hkr _ _ c2;have c3r:=hkr _ _ c3
        by_cases hjt:j<kb.term.to.length
        · obtain ⟨b',o',x,rfl,hx,hxc,hx64⟩:=htos.int hjt;have hxc:=hkr _ _ hxc;(go_wp2_with fail);refine (isBlock_any f _ x wr (VFun.keep hkr hvf)).mono ?_;rintro e w4 ⟨rfl,hb4⟩;have hg4:=hgr'.below hb4;have hl4:w4.rowIs (N+1+1) 3 f.blocks.length (fun i=>.int .i64 (la' i)):=hlr.of_block (hb4.block _ hlr.lt);have hbel4:Below (N+1) w1 w4:=hbelr.trans (hb4.mono (by omega));have hs4:N+1+1<w4.heap.size:=by have:=hb4.size;omega
          clear c0r c1r c2r c3r hxc hgr' hlr hbelr hb4 hkr
          by_cases hin:0≤x∧x<f.blocks.length
          · obtain ⟨q,rfl⟩:∃ q:Nat,x=q:=⟨x.toNat,by omega⟩;(have hq:q<f.blocks.length:=by omega);have hat:isAtB q f.blocks.length=true:=decide_eq_true hin;rw [hat];(have hq1:(q:Int)<f.blocks.length:=by omega);(have hq0:(0:Int)≤q:=by omega);clear hin hat;obtain ⟨hy0,hy1,hym⟩:=hlor q hq;have hyc:=hl4.cell hq
            obtain ⟨y,hy⟩:∃ y,y=la' q:=⟨_,rfl⟩;simp only [← hy] at hyc hy0 hy1 hym;have HYM:=Lib.hid hym;clear hy hym
            by_cases hyk:y=k+1
            · (have hb1:((y:Int) != (k:Int)+1)=false:=by simp [hyk]);have hold:¬ (0≤(q:Int)∧(q:Int)<f.blocks.length∧(q:Int).toNat ∉ nextN f.blocks.length (kb.term.to.take j)):=fun h=>h.2.2 (by simpa using HYM.out.1 hyk);clear hyk;have HO:=Lib.hid hold;clear hold;go_wp2_with fail
              go_roundw
              case rel=>exact ⟨j+1,V',la',by omega,by go_num,hbel4,hs4,hg4.congr (fun i _=>NX_old hx.out HO.out i),hl4,hlor.old hx.out HO.out⟩
              case measure=>simp [intOf];omega
            · (have hb1:((y:Int) != (k:Int)+1)=true:=by simpa using hyk);have HNEW:Hid (q ∉ nextN f.blocks.length (kb.term.to.take j)):=Lib.hid fun h=>hyk (HYM.out.2 h);clear hyk;have hfy:=hl4.frozen q;have hset:=hl4.set q (.int .i64 ((k:Int)+1));(have hgs:Gri (w4.setCell ⟨N+1+1,q,none⟩ (.int .i64 ((k:Int)+1))) (N+1) (N+1+2) f.blocks.length V' (NX f.blocks k (kb.term.to.take j)):=hg4.setOther (by show N+1≠N+1+1;omega) (by show N+1+1<N+1+2;omega) _);(have hbs:Below (N+1) w1 (w4.setCell ⟨N+1+1,q,none⟩ (.int .i64 ((k:Int)+1))):=hbel4.setCell (by show N+1≤N+1+1;omega) _);(have hss:N+1+1<(w4.setCell ⟨N+1+1,q,none⟩ (.int .i64 ((k:Int)+1))).heap.size:=by simpa using hs4);go_upto_region 11 with fail
              clear hyc hfy hb1;generalize w4.setCell ⟨N+1+1,q,none⟩ (.int .i64 ((k:Int)+1))=w5 at *;have hrow:=hgs.row.cell hlt;have hll:(NX f.blocks k (kb.term.to.take j) k).length≤f.blocks.length:=by
                rw [NX_here,qc];exact nextN_few _ _
              have hvs:VS w5 1 RInt (V' k) (NX f.blocks k (kb.term.to.take j) k):=qx (hgs.own k hlt) (by
                rw [NX_here];intro x hx;obtain ⟨q,hq,rfl⟩:=zs_mem hx;have:=(nextN_mem.1 hq).1;unfold I64;omega)
              go_wp2_with (at_builtin;refine wpList_append_lies _ rfl (.tmp 55) (.tmp 57) 27 rfl (N+1+2) 3 i0 (.int .i64 0) 1 8 Tryz.underlying27 HI.out.1 HI.out.2.1 HI.out.2.2.1 HI.out.2.2.2 rfl (by decide) (V' k) _ _ rfl ((hgs.own k hlt).alloc _) ⟨w5.heap.size,0,none⟩ 1 1 [.int .i64 q] rfl rfl ?c1 ?c2 ?c0 ?c3 ?c4 ?c5 (w5.heap.size+1) ?c6 ?_)
              case c1=>exact qi w5 _ _ rfl
              case c2=>exact ints_oneCell .i64 [(q:Int)]
              case c0=>omega
              case c3=>unfold maxLen;omega
              case c4=>omega
              case c5=>simp;omega
              case c6=>simp
              intro g cap w6 hown6 hgrow6 hloc6 hlt6;have hgp:=Gri.push (hgs.alloc _) hlt hown6 hgrow6 (by simpa using hloc6);have hgp':=hgp.congr (fun i _=>NX_new hx.out hq HNEW.out i);(have hb6:Below (N+1) w1 w6:=(hbs.alloc (by omega) _).grown hgrow6 (by simp;omega) (fun g hg=>by have:=((hgs.own k hlt).lt g hg).1;omega));(have hG6:w6.heap[N+1]?=(w5.alloc (.cells #[.int .i64 q] 3)).heap[N+1]?:=hgrow6.block _ (by simp;omega) (fun e=>by have:=((hgs.own k hlt).lt _ e.symm).1;omega));have hrow6:=(World.cell?_of_block (a:=⟨N+1,k,none⟩) hG6).trans ((hgs.row.alloc _).cell hlt);have hfr6:=(World.frozen?_of_block (a:=⟨N+1,k,none⟩) hG6).trans ((hgs.row.alloc _).frozen k);(have hs6:N+1+1<w6.heap.size:=by have:=hgrow6.size;simp at this;omega);have hL6:w6.heap[N+1+1]?=(w5.alloc (.cells #[.int .i64 q] 3)).heap[N+1+1]?:=hgrow6.block _ (by simp;omega) (fun e=>by have:=((hgs.own k hlt).lt _ e.symm).1;omega)
              (have hl6:=((hset.alloc (.cells #[.int .i64 q] 3)).of_block hL6).setOther (a:=⟨N+1,k,none⟩) (by show N+1+1≠N+1;omega) (.slice (some ⟨g,0,none⟩) ((NX f.blocks k (kb.term.to.take j) k).length+1) cap));(have hl6':=hl6.congr (g:=fun i=>.int .i64 ((fun i=>if i=q then (k:Int)+1 else la' i) i)) (fun i _=>by by_cases e:i=q <;> simp [e]));have HP6:=Lib.hid hgp';have HL6:=Lib.hid hl6';have HLO6:=Lib.hid (hlor.new hx.out hq HNEW.out);clear hgp hgp' hown6 hgrow6 hloc6 hG6 hgs hrow hvs hl6 hl6' hL6 hlor hset hl4 hg4;go_wp2_with fail
              go_roundw
              case rel=>exact ⟨j+1,_,_,by omega,by go_num,hb6.setCell (by show _≤N+1;omega) _,by simpa using hs6,HP6.out,HL6.out,HLO6.out⟩
              case measure=>simp [intOf];omega
          · have hat:isAtB x f.blocks.length=false:=decide_eq_false hin;rw [hat];have hold:¬ (0≤x∧x<f.blocks.length∧x.toNat ∉ nextN f.blocks.length (kb.term.to.take j)):=fun h=>hin ⟨h.1,h.2.1⟩;have HO:=Lib.hid hold;clear hold hin hat;go_wp2_with fail
            go_roundw
            case rel=>exact ⟨j+1,V',la',by omega,by go_num,hbel4,hs4,hg4.congr (fun i _=>NX_old hx.out HO.out i),hl4,hlor.old hx.out HO.out⟩
            case measure=>simp [intOf];omega
        · have hjj:kb.term.to.take j=kb.term.to:=List.take_of_length_le (by omega);rw [hjj] at hgr' hlor;clear hjj;go_wp2_with fail
          go_roundw
          case rel=>exact ⟨k+1,V',la',by omega,by go_num,hbelr,hsr,hgr'.congr (fun i _=>NX_all hkb.out i),hlr,hlor.next⟩
          case measure=>simp [intOf];omega
    · (have hkk:k=f.blocks.length:=by omega);subst hkk;(go_wp2_with fail);(go_ret);exact ⟨⟨V,_,rfl,by have:=HN.out;omega,hg.congr (fun i hi=>NX_end _ _ hi)⟩,by rw [← HN.out];exact hbel1.trans (hbel.mono (by omega))⟩
structure BW (w:World) (M G n:Nat) (S:Nat→Bool) (R:Nat→List Nat) (V:Nat→Value) (op dn:List Nat) (vo vd:Value):Prop where
  nbox:w.heap[M]?=some (.cells #[.slice (some ⟨G,0,none⟩) n n] 65 (0,0))
  gbox:w.heap[M+2]?=some (.cells #[.slice (some ⟨M+1,0,none⟩) n n] 64 (0,0))
  dbox:w.heap[M+3]?=some (.cells #[vd] 27 (0,0))
  obox:w.heap[M+4]?=some (.cells #[vo] 27 (0,0))
  ebox:w.heap[M+5]?=some (.cells #[.func (.func 131) #[] #[.pointer (some ⟨M+2,0,none⟩),.pointer (some ⟨M+4,0,none⟩)]] 191 (0,0))
  rbox:w.heap[M+6]?=some (.cells #[.func (.func 132) #[] #[.pointer (some ⟨M,0,none⟩),.pointer (some ⟨M+2,0,none⟩),.pointer (some ⟨M+5,0,none⟩),.pointer (some ⟨M+6,0,none⟩),.pointer (some ⟨M+4,0,none⟩),.pointer (some ⟨M+3,0,none⟩)]] 182 (0,0))
  grow:w.rowIs (M+1) 4 n (fun x=>.bool (S x))
  nrow:w.rowIs G 27 n V
  lists:∀ x,x<n→∃ A c,V x=.slice A (R x).length c∧SL w 1 (RIntB (fun b=>b<M∧b≠G)) A c (zs (R x))
  ownO:w.ownsRow (M+7) 3 1 vo op.length ((zs op).map (Value.int .i64))
  ownD:w.ownsRow (M+7) 3 1 vd dn.length ((zs dn).map (Value.int .i64))
  apart:vo.ownBlock=none∨vo.ownBlock≠vd.ownBlock
  inR:∀ x,x<n→∀ t∈R x,t<n
  gm:G<M
theorem BW.size {w:World} {M G n:Nat} {S:Nat→Bool} {R:Nat→List Nat} {V:Nat→Value} {op dn:List Nat} {vo vd:Value} (h:BW w M G n S R V op dn vo vd):M+6<w.heap.size:=qO h.rbox
theorem BW.of_blocks {w w':World} {M G n:Nat} {S:Nat→Bool} {R:Nat→List Nat} {V:Nat→Value} {op dn:List Nat} {vo vd:Value} (h:BW w M G n S R V op dn vo vd)
    (hk:∀ k,k<M+7→w'.heap[k]?=w.heap[k]?) (ho:∀ g,vo.ownBlock=some g→w'.heap[g]?=w.heap[g]?) (hd:∀ g,vd.ownBlock=some g→w'.heap[g]?=w.heap[g]?):BW w' M G n S R V op dn vo vd:=by
  have hgm:=h.gm;refine ⟨(hk _ (by omega)).trans h.nbox,(hk _ (by omega)).trans h.gbox,(hk _ (by omega)).trans h.dbox,(hk _ (by omega)).trans h.obox,(hk _ (by omega)).trans h.ebox,(hk _ (by omega)).trans h.rbox,h.grow.of_block (hk _ (by omega)),h.nrow.of_block (hk _ (by omega)),fun x hx=>?_,qH h.ownO ho,qH h.ownD hd,h.apart,h.inR,h.gm⟩;obtain ⟨A,c,e,hs⟩:=h.lists x hx;exact ⟨A,c,e,SIntsB.go (fun a v hb ha=>(World.cell?_of_block (hk _ (by have:=hb.1;omega))).trans ha) (fun _ hb=>hb) hs⟩
theorem BW.below {w w':World} {M G n:Nat} {S:Nat→Bool} {R:Nat→List Nat} {V:Nat→Value} {op dn:List Nat} {vo vd:Value} (h:BW w M G n S R V op dn vo vd) (hb:Below w.heap.size w w'):BW w' M G n S R V op dn vo vd :=
  h.of_blocks (fun k hk=>hb.block k (by have:=h.size;omega)) (fun g hg=>hb.block g (h.ownO.lt g hg).2) (fun g hg=>hb.block g (h.ownD.lt g hg).2)
theorem BW.drewN {w:World} {M G n:Nat} {S:Nat→Bool} {R:Nat→List Nat} {V:Nat→Value} {op dn:List Nat} {vo vd:Value} (h:BW w M G n S R V op dn vo vd) (k:Nat):BW (w.drewN k) M G n S R V op dn vo vd :=
  h.of_blocks (fun _ _=>rfl) (fun _ _=>rfl) (fun _ _=>rfl)
theorem BW.gone {w:World} {M G n:Nat} {S:Nat→Bool} {R:Nat→List Nat} {V:Nat→Value} {op dn:List Nat} {vo vd:Value} (h:BW w M G n S R V op dn vo vd) (b:Nat):BW (w.setCell ⟨M+1,b,none⟩ (.bool true)) M G n (mark S b) R V op dn vo vd:=by
  have hgm:=h.gm;have hk:∀ k,k≠M+1→(w.setCell ⟨M+1,b,none⟩ (.bool true)).heap[k]?=w.heap[k]?:=fun k hk=>Below.heap_setCell _ _ _ _ hk;refine ⟨(hk _ (by omega)).trans h.nbox,(hk _ (by omega)).trans h.gbox,(hk _ (by omega)).trans h.dbox,(hk _ (by omega)).trans h.obox,(hk _ (by omega)).trans h.ebox,(hk _ (by omega)).trans h.rbox,(h.grow.set b (.bool true)).congr fun x hx=>?_,h.nrow.of_block (hk _ (by omega)),fun x hx=>?_,qH h.ownO (fun g hg=>hk g (by have:=(h.ownO.lt g hg).1;omega)),qH h.ownD (fun g hg=>hk g (by have:=(h.ownD.lt g hg).1;omega)),h.apart,h.inR,h.gm⟩
  · unfold mark;split <;> simp_all
  · obtain ⟨A,c,e,hs⟩:=h.lists x hx;exact ⟨A,c,e,SIntsB.go (fun a v hb ha=>(World.cell?_of_block (hk _ (by have:=hb.1;omega))).trans ha) (fun _ hb=>hb) hs⟩
theorem BW.open_ {w w2:World} {M G n:Nat} {S:Nat→Bool} {R:Nat→List Nat} {V:Nat→Value} {op dn op':List Nat} {vo vd vo':Value} (h:BW w M G n S R V op dn vo vd)
    (hk:∀ k,k<M+7→w2.heap[k]?=w.heap[k]?) (hd:∀ g,vd.ownBlock=some g→w2.heap[g]?=w.heap[g]?)
    (hown:w2.ownsRow (M+7) 3 1 vo' op'.length ((zs op').map (Value.int .i64))) (ha:vo'.ownBlock=none∨vo'.ownBlock≠vd.ownBlock):BW (w2.setCell ⟨M+4,0,none⟩ vo') M G n S R V op' dn vo' vd:=by
  have hgm:=h.gm;have hs:∀ k,k≠M+4→(w2.setCell ⟨M+4,0,none⟩ vo').heap[k]?=w2.heap[k]?:=fun k hk=>Below.heap_setCell _ _ _ _ hk;have hk':∀ k,k<M+7→k≠M+4→(w2.setCell ⟨M+4,0,none⟩ vo').heap[k]?=w.heap[k]?:=fun k h1 h2=>(hs k h2).trans (hk k h1)
  refine ⟨(hk' _ (by omega) (by omega)).trans h.nbox,(hk' _ (by omega) (by omega)).trans h.gbox,(hk' _ (by omega) (by omega)).trans h.dbox,qF (i:=0) vo' ((hk _ (by omega)).trans h.obox),(hk' _ (by omega) (by omega)).trans h.ebox,(hk' _ (by omega) (by omega)).trans h.rbox,h.grow.of_block (hk' _ (by omega) (by omega)),h.nrow.of_block (hk' _ (by omega) (by omega)),fun x hx=>?_,
    qH hown (fun g hg=>hs g (by have:=(hown.lt g hg).1;omega)),qH h.ownD (fun g hg=>(hs g (by have:=(h.ownD.lt g hg).1;omega)).trans (hd g hg)),ha,h.inR,h.gm⟩
  obtain ⟨A,c,e,hsl⟩:=h.lists x hx;exact ⟨A,c,e,SIntsB.go (fun a v hb ha=>(World.cell?_of_block (hk' _ (by have:=hb.1;omega) (by have:=hb.1;omega))).trans ha) (fun _ hb=>hb) hsl⟩
theorem BW.done_ {w w2:World} {M G n:Nat} {S:Nat→Bool} {R:Nat→List Nat} {V:Nat→Value} {op dn dn':List Nat} {vo vd vd':Value} (h:BW w M G n S R V op dn vo vd)
    (hk:∀ k,k<M+7→w2.heap[k]?=w.heap[k]?) (ho:∀ g,vo.ownBlock=some g→w2.heap[g]?=w.heap[g]?)
    (hown:w2.ownsRow (M+7) 3 1 vd' dn'.length ((zs dn').map (Value.int .i64))) (ha:vo.ownBlock=none∨vo.ownBlock≠vd'.ownBlock):BW (w2.setCell ⟨M+3,0,none⟩ vd') M G n S R V op dn' vo vd':=by
  have hgm:=h.gm;have hs:∀ k,k≠M+3→(w2.setCell ⟨M+3,0,none⟩ vd').heap[k]?=w2.heap[k]?:=fun k hk=>Below.heap_setCell _ _ _ _ hk;have hk':∀ k,k<M+7→k≠M+3→(w2.setCell ⟨M+3,0,none⟩ vd').heap[k]?=w.heap[k]?:=fun k h1 h2=>(hs k h2).trans (hk k h1)
  refine ⟨(hk' _ (by omega) (by omega)).trans h.nbox,(hk' _ (by omega) (by omega)).trans h.gbox,qF (i:=0) vd' ((hk _ (by omega)).trans h.dbox),(hk' _ (by omega) (by omega)).trans h.obox,(hk' _ (by omega) (by omega)).trans h.ebox,(hk' _ (by omega) (by omega)).trans h.rbox,h.grow.of_block (hk' _ (by omega) (by omega)),h.nrow.of_block (hk' _ (by omega) (by omega)),fun x hx=>?_,
    qH h.ownO (fun g hg=>(hs g (by have:=(h.ownO.lt g hg).1;omega)).trans (ho g hg)),qH hown (fun g hg=>hs g (by have:=(hown.lt g hg).1;omega)),ha,h.inR,h.gm⟩
  obtain ⟨A,c,e,hsl⟩:=h.lists x hx;exact ⟨A,c,e,SIntsB.go (fun a v hb ha=>(World.cell?_of_block (hk' _ (by have:=hb.1;omega) (by have:=hb.1;omega))).trans ha) (fun _ hb=>hb) hsl⟩
theorem BW.next_ {w:World} {M G n b:Nat} {S:Nat→Bool} {R:Nat→List Nat} {V:Nat→Value} {op dn l:List Nat} {vo vd:Value} {A:Option Addr} {c:Nat} (h:BW w M G n S R V op dn vo vd) (hl:∀ t∈l,t<n)
    (hs:SL w 1 (RIntB (fun b=>b<M∧b≠G)) A c (zs l)):BW (w.setCell ⟨G,b,none⟩ (.slice A l.length c)) M G n S (fun x=>if x=b then l else R x) (fun x=>if x=b then .slice A l.length c else V x) op dn vo vd:=by
  have hgm:=h.gm;have hk:∀ k,k≠G→(w.setCell ⟨G,b,none⟩ (.slice A l.length c)).heap[k]?=w.heap[k]?:=fun k hk=>Below.heap_setCell _ _ _ _ hk;have hkb:KeptB (fun y=>y<M∧y≠G) w (w.setCell ⟨G,b,none⟩ (.slice A l.length c)):=fun a v hb ha=>(World.cell?_of_block (hk _ hb.2)).trans ha;refine ⟨(hk _ (by omega)).trans h.nbox,(hk _ (by omega)).trans h.gbox,(hk _ (by omega)).trans h.dbox,(hk _ (by omega)).trans h.obox,(hk _ (by omega)).trans h.ebox,(hk _ (by omega)).trans h.rbox,h.grow.of_block (hk _ (by omega)),h.nrow.set b _,fun x hx=>?_,qH h.ownO (fun g hg=>hk g (by have:=(h.ownO.lt g hg).1;omega)),qH h.ownD (fun g hg=>hk g (by have:=(h.ownD.lt g hg).1;omega)),h.apart,fun x hx=>?_,h.gm⟩
  · by_cases e:x=b
    · simp only [if_pos e];exact ⟨A,c,rfl,SIntsB.go hkb (fun _ hb=>hb) hs⟩
    · simp only [if_neg e];obtain ⟨A',c',e',hs'⟩:=h.lists x hx;exact ⟨A',c',e',SIntsB.go hkb (fun _ hb=>hb) hs'⟩
  · by_cases e:x=b
    · simp only [if_pos e];exact hl
    · simp only [if_neg e];exact h.inR x hx
theorem size_int (w:World):(sizeOf (Tryz.prog.elem 27)).run Tryz.prog w=.ok 1 w:=by kernel_rfl
theorem elem_ints:Tryz.prog.underlying 27=some (.slice (Tryz.prog.elem 27)):=by kernel_rfl
theorem cut_first {B:Nat→Prop} {w:World} {A:Option Addr} {c:Nat} {x:Int} {xs:List Int} (h:SL w 1 (RIntB B) A c (x::xs)) :
    ∃ A' c',(∀ W,(Instr.slice 27 (.slice A (xs.length+1) c) (some (.int .i64 1)) none none).run Tryz.prog W=.ok (.slice A' xs.length c') W)∧SL w 1 (RIntB B) A' c' xs:=by
  obtain ⟨h1,⟨h2,_⟩,h3⟩:=h;obtain ⟨b,o,rfl,hx⟩:=h3 (by simp);simp only [List.length_cons] at h1;have hrun:∀ W,(Instr.slice 27 (.slice (some ⟨b,o,none⟩) (xs.length+1) c) (some (.int .i64 1)) none none).run Tryz.prog W=.ok (sliced (some ⟨b,o,none⟩) 1 (xs.length+1) c 1) W:=fun W=>by
    rw [run_slice_l W 27 (some ⟨b,o,none⟩) (xs.length+1) c elem_ints .i64 1 (by omega) (by omega),size_int];simp [Result.andThen]
  by_cases hc:c=1
  · obtain rfl:xs=[]:=List.length_eq_zero_iff.1 (by omega);refine ⟨some ⟨b,o,none⟩,c - 1,fun W=>(hrun W).trans (by unfold sliced;rw [if_pos hc];simp),Nat.zero_le _,⟨by omega,fun e=>by cases e⟩,fun h=>absurd h (by simp)⟩
  · (refine ⟨some ⟨b,o+1,none⟩,c - 1,fun W=>(hrun W).trans (by unfold sliced;rw [if_neg hc,Option.map_some];unfold Addr.add;simp),by omega,⟨by omega,fun e=>by cases e⟩,fun _=>⟨b,o+1,rfl,fun i y hi=>?_⟩⟩);have:=hx (i+1) y (by simpa using hi)
    rwa [show o+(i+1) * 1=o+1+i * 1 by omega] at this
theorem own_pop {w:World} {base:Nat} {v:Value} {xs:List Nat} {x:Nat} (h:w.ownsRow base 3 1 v (xs++[x]).length ((zs (xs++[x])).map (Value.int .i64))) :
    ∃ g cap,v=.slice (some ⟨g,0,none⟩) (xs.length+1) cap∧w.cell? ⟨g,xs.length,none⟩=some (.int .i64 x)∧xs.length+1≤cap∧cap≤maxLen ∧
      (∀ W,(Instr.slice 27 (.slice (some ⟨g,0,none⟩) (xs.length+1) cap) none (some (.int .i64 xs.length)) none).run Tryz.prog W=.ok (.slice (some ⟨g,0,none⟩) xs.length cap) W) ∧
      w.ownsRow base 3 1 (.slice (some ⟨g,0,none⟩) xs.length cap) xs.length ((zs xs).map (Value.int .i64)):=by
  (have hl:(xs++[x]).length=xs.length+1:=by simp);have h0:=h;obtain ⟨h1,⟨-,h2⟩ | ⟨g,cap,cur,rfl,hb,hh,hn,hc,hsz,ht⟩⟩:=h
  · rw [hl] at h2;omega
  · rw [hl] at hn ht;refine ⟨g,cap,by rw [hl],?_,hn,hc,fun W=>?_,⟨by simp [zs],.inr ⟨g,cap,cur,rfl,hb,hh,by omega,hc,hsz,?_⟩⟩⟩
    · have:=h0.cells (g:=g) rfl xs.length (.int .i64 x) (by simp [zs])
      rwa [show (⟨g,0,none⟩:Addr).add xs.length=⟨g,xs.length,none⟩ by unfold Addr.add;split <;> simp_all] at this
    · rw [run_slice_h W 27 (some ⟨g,0,none⟩) (xs.length+1) cap elem_ints .i64 xs.length (by omega) (by omega),size_int];(have hc0:cap≠0:=by omega);simp [Result.andThen,sliced,hc0,Addr.add]
    · (have:cur.toList.take (xs.length * 1)=(cur.toList.take ((xs.length+1) * 1)).take xs.length:=by rw [List.take_take];congr 1;omega);rw [this,ht,zs_snoc,List.map_append,List.take_left' (by simp [zs])]
def ToldB (M G n:Nat) (S:Nat→Bool) (R:Nat→List Nat) (V:Nat→Value) (op dn:List Nat) (vd:Value) (w:World) (e:Ending) (w':World):Prop :=
  e=.returned (.tuple #[])∧(∃ vo',BW w' M G n S R V op dn vo' vd)∧BB M G w w'
set_option maxHeartbeats 4000000 in
theorem enterG_any (M G n b:Nat) (S:Nat→Bool) (R:Nat→List Nat) (V:Nat→Value) (op dn:List Nat) (vo vd:Value) (w:World) (h:BW w M G n S R V op dn vo vd) (hb:b<n) (hn:n≤1000000) (ho:op.length≤1000000) :
    Calls Tryz.prog 131 #[.int .i64 b,.pointer (some ⟨M+2,0,none⟩),.pointer (some ⟨M+4,0,none⟩)] w (ToldB M G n (mark S b) R V (op++[b]) dn vd w):=by
  obtain ⟨i0,hi,hz0,hz1,hz2⟩:=info_parts Tryz.info3;have HI:=Lib.hid (And.intro hi (And.intro hz0 (And.intro hz1 hz2)));clear hi hz0 hz1 hz2;have hM:=h.size;have hgm:=h.gm;have c1:w.cell? ⟨M+2,0,none⟩=some (.slice (some ⟨M+1,0,none⟩) n n):=q7 h.gbox 0;have c2:=h.grow.cell hb;have f2:=h.grow.frozen b;have hg:=h.gone b
  (have hbb:BB M G w (w.setCell ⟨M+1,b,none⟩ (.bool true)):=(BB.refl M G w).setCell (.inr (by show M≤M+1;omega)) _);(have hz:(w.setCell ⟨M+1,b,none⟩ (.bool true)).heap.size=w.heap.size:=by simp);have HH:=Lib.hid h;clear h;(go_enter Tryz.func131,Tryz.ntmps131);(go_upto_region 1 with fail);clear c1 c2 f2;generalize w.setCell ⟨M+1,b,none⟩ (.bool true)=w1 at *;have hM1:M+6<w1.heap.size:=by omega
  have c3:w1.cell? ⟨M+4,0,none⟩=some vo:=q7 hg.obox 0;have HBB:=Lib.hid hbb;have HZ:=Lib.hid hz;clear hbb hz;go_wp2_with (at_builtin;refine wpList_append_lies _ rfl (.tmp 7) (.tmp 9) 27 rfl (M+7) 3 i0 (.int .i64 0) 1 8 Tryz.underlying27 HI.out.1 HI.out.2.1 HI.out.2.2.1 HI.out.2.2.2 rfl (by decide) vo _ _ rfl (hg.ownO.alloc _) ⟨w1.heap.size,0,none⟩ 1 1 [.int .i64 b] rfl rfl ?c1 ?c2 ?c0 ?c3 ?c4 ?c5 (w1.heap.size+1) ?c6 ?_)
  case c1=>exact qi w1 _ _ rfl
  case c2=>exact ints_oneCell .i64 [(b:Int)]
  case c0=>omega
  case c3=>unfold maxLen;omega
  case c4=>omega
  case c5=>simp;omega
  case c6=>simp
  intro g cap w2 hown hgrow hloc hlt;(have hk:∀ k,k<w1.heap.size→some k≠vo.ownBlock→w2.heap[k]?=w1.heap[k]?:=fun k hk hne=>(hgrow.block k (by simp;omega) hne).trans (Below.heap_alloc _ _ _ hk));have hlow:∀ k,k<M+7→w2.heap[k]?=w1.heap[k]?:=fun k hk'=>hk k (by omega) (fun e=>by have:=(hg.ownO.lt k e.symm).1;omega)
  have hnew:=hg.open_ (op':=op++[b]) (vo':=.slice (some ⟨g,0,none⟩) (op.length+1) cap) hlow (fun x hx=>hk x (hg.ownD.lt x hx).2 (fun e=>by
      rcases hg.apart with h | h
      · rw [h] at e;cases e
      · exact h (e.symm.trans hx.symm))) (by simpa [zs] using hown) (by
    right;intro e;(have hgd:vd.ownBlock=some g:=by rw [← e];rfl);rcases hloc with h | h
    · rcases hg.apart with h2 | h2
      · rw [h] at h2;cases h2
      · exact h2 (h.trans hgd.symm)
    · have:=(hg.ownD.lt g hgd).2;omega)
  have c4:w2.cell? ⟨M+4,0,none⟩=some vo:=(World.cell?_of_block (a:=⟨M+4,0,none⟩) (hlow (M+4) (by omega))).trans c3;have f4:w2.frozen? ⟨M+4,0,none⟩=false:=qV ((hlow (M+4) (by omega)).trans hg.obox) 0;(have hbb2:BB M G w w2:=(HBB.out.alloc (by have:=HZ.out;omega) _).grown hgrow (by have:=HZ.out;simp;omega) (fun k hk=>.inr (by have:=(hg.ownO.lt k hk).1;omega)));have HN:=Lib.hid hnew;have HB2:=Lib.hid hbb2;clear hown hgrow hloc hk hlow hnew hbb2 hg c3;(go_wp2_with fail);(go_end0);exact ⟨rfl,⟨_,HN.out⟩,HB2.out.setCell (.inr (by show M≤M+4;omega)) _⟩
end Go.Proofs.YtfoggldjjnabcaaGreatDoor

namespace Go.Proofs.YtfoggldjjnabcaaGreatDoor
open Go
set_option linter.unusedVariables false
section
variable {P:Program} {ops:Array Oper} {Q:Exit→Act→World→Prop} {md:Region.Mode} {S:World→Prop}
def downB (md:Region.Mode) (ops:Array Oper):Bool :=
  (List.range ops.size).all fun i=>((ops[i]?).map fun o=>o.after.all fun e=>!Region.binds md e || decide (e.on<i)).getD true
def feedsB (md:Region.Mode) (ops:Array Oper) (L:Nat):Bool :=
  (List.range L).all fun i=>(List.range (L+1)).any fun j=>decide (i<j) && ((ops[j]?).map fun o=>o.after.any fun e=>Region.binds md e && decide (e.on=i)).getD false
theorem downB_spec (h:downB md ops=true) {i:Nat} {o:Oper} (ho:ops[i]?=some o):∀ e∈o.after,Region.binds md e=true→e.on<i:=by
  intro e he hb;unfold downB at h;have hi:i<ops.size:=(Array.getElem?_eq_some_iff.1 ho).1;have h1:=List.all_eq_true.1 h i (List.mem_range.2 hi);rw [ho] at h1;simp only [Option.map_some,Option.getD_some,Array.all_eq_true_iff_forall_mem] at h1;have h2:=h1 e he;simpa [hb] using h2
theorem feedsB_spec {L:Nat} (h:feedsB md ops L=true) {i:Nat} (hi:i<L):∃ j o e,i<j∧j≤L∧ops[j]?=some o∧e∈o.after∧Region.binds md e=true∧e.on=i:=by
  unfold feedsB at h;have h1:=List.all_eq_true.1 h i (List.mem_range.2 hi);obtain ⟨j,hj,h2⟩:=List.any_eq_true.1 h1;rw [Bool.and_eq_true] at h2;obtain ⟨h3,h4⟩:=h2;cases ho:ops[j]? with
  | none=>rw [ho] at h4;simp at h4
  | some o =>
    rw [ho] at h4;simp only [Option.map_some,Option.getD_some,Array.any_eq_true'] at h4;obtain ⟨e,he,hb⟩:=h4;rw [Bool.and_eq_true] at hb;exact ⟨j,o,e,of_decide_eq_true h3,by have:=List.mem_range.1 hj;omega,ho,he,hb.1,of_decide_eq_true hb.2⟩
def Closed (md:Region.Mode) (ops:Array Oper) (listed:Array Bool):Prop :=
  ∀ i o,ops[i]?=some o→listed.getD i true=true→∀ e∈o.after,Region.binds md e=true→listed.getD e.on false=true
theorem getD_two {l:Array Bool} {i:Nat} (h:i<l.size) (a b:Bool):l.getD i a=l.getD i b:=by
  simp [Array.getD,h]
theorem getD_set_self {l:Array Bool} {i:Nat} (h:i<l.size) (d:Bool):(l.setIfInBounds i true).getD i d=true:=by
  simp [Array.getD,h]
theorem Closed.set {listed:Array Bool} (hc:Closed md ops listed) (hs:listed.size=ops.size) {i:Nat} (hi:i∈Region.ready md ops listed):Closed md ops (listed.setIfInBounds i true):=by
  intro j o ho hj e he hb
  by_cases hji:j=i
  · subst hji;obtain ⟨_,o',ho',hall⟩:=mem_ready.1 hi;rw [ho] at ho';cases ho';exact getD_set_true (hall e he hb)
  · rw [getD_set_ne true (Ne.symm hji)] at hj;exact getD_set_true (hc j o ho hj e he hb)
theorem all_of_last {L:Nat} {listed:Array Bool} (hsz:ops.size=L+1) (hs:listed.size=ops.size) (hf:feedsB md ops L=true) (hc:Closed md ops listed) (hL:L∈Region.ready md ops listed):∀ i,i<L→listed.getD i true=true:=by
  have key:∀ n i,L - i≤n→i<L→listed.getD i true=true:=by
    intro n
    induction n with
    | zero=>intro i h1 h2;omega
    | succ n ih =>
      intro i h1 h2;obtain ⟨j,o,e,hij,hjL,ho,he,hb,hei⟩:=feedsB_spec hf h2;have h3:listed.getD e.on false=true:=by
        by_cases hj:j=L
        · subst hj;obtain ⟨_,o',ho',hall⟩:=mem_ready.1 hL;rw [ho] at ho';cases ho';exact hall e he hb
        · exact hc j o ho (ih j (by omega) (by omega)) e he hb
      rw [hei] at h3;rw [getD_two (by omega) true false];exact h3
  exact fun i hi=>key (L - i) i (Nat.le_refl _) hi
theorem ready_some {L:Nat} {listed:Array Bool} (hsz:ops.size=L+1) (hs:listed.size=ops.size) (hd:downB md ops=true) (hL:listed.getD L true=false):Region.ready md ops listed≠[]:=by
  have key:∀ n i,i≤n→i≤L→listed.getD i true=false→∃ k,k∈Region.ready md ops listed:=by
    intro n
    induction n with
    | zero =>
      intro i h1 h2 h3;(obtain rfl:i=0:=by omega);have ho:ops[0]?=some ops[0]:=Array.getElem?_eq_getElem (by omega);exact ⟨0,mem_ready.2 ⟨h3,_,ho,fun e he hb=>absurd (downB_spec hd ho e he hb) (by omega)⟩⟩
    | succ n ih =>
      intro i h1 h2 h3;have ho:ops[i]?=some ops[i]:=Array.getElem?_eq_getElem (by omega)
      by_cases hall:∀ e∈ops[i].after,Region.binds md e=true→listed.getD e.on false=true
      · exact ⟨i,mem_ready.2 ⟨h3,_,ho,hall⟩⟩
      · simp only [Classical.not_forall] at hall;obtain ⟨e,he,hb,hno⟩:=hall;have hlt:=downB_spec hd ho e he hb;refine ih e.on (by omega) (by omega) ?_;rw [getD_two (by omega) true false];simpa using hno
  obtain ⟨k,hk⟩:=key L L (Nat.le_refl _) (Nat.le_refl _) hL;intro h0;rw [h0] at hk;cases hk
def LastQ (P:Program) (ops:Array Oper) (Q:Exit→Act→World→Prop) (L:Nat):Exit→Act→World→Prop
  | .normal,a,w=>wpOp P ops Q L (Q .normal) a w
  | e,a,w=>Q e a w
theorem upon_last {L:Nat} {o:Oper} {a:Act} {K:Act→World→Prop} {r:Result Next} (h:o.upon P a K (LastQ P ops Q L) r):o.upon P a K Q r:=by
  cases r with
  | ok n w' =>
    cases n <;> simp only [Oper.upon] at h ⊢ <;> exact h
  | halt x w'=>cases x <;> simp only [Oper.upon] at h ⊢ <;> exact h
theorem wpOp_last {L i:Nat} {K:Act→World→Prop} {a:Act} {w:World} (h:wpOp P ops (LastQ P ops Q L) i K a w):wpOp P ops Q i K a w:=by
  unfold wpOp at *
  split
  · rename_i ho;simp only [ho] at h;exact h
  · rename_i o ho;simp only [ho] at h
    split
    · rename_i hw;simp only [hw,if_true] at h;exact h.imp (fun h=>by unfold Oper.wp at *;exact upon_last h) (fun h=>⟨h.1,h.2⟩)
    · rename_i hw;simp only [hw] at h;exact h
theorem wpAny_last {L:Nat} (hsz:ops.size=L+1) (hd:downB md ops=true) (hf:feedsB md ops L=true) :
    ∀ (fuel:Nat) (listed:Array Bool) (a:Act) (w:World),listed.size=ops.size→Closed md ops listed→listed.getD L true=false →
      wpAnyH P md ops (LastQ P ops Q L) S fuel (listed.setIfInBounds L true) a w→wpAny P md ops Q (fuel+1) listed a w:=by
  intro fuel
  induction fuel with
  | zero =>
    intro listed a w hs hc hL H;refine ⟨fun h0=>absurd h0 (ready_some hsz hs hd hL),fun i hi=>?_⟩
    by_cases hiL:i=L
    · subst hiL;exact wpOp_mono (fun a' w' h'=>⟨H.1,h'⟩) (show wpOp P ops Q i (Q .normal) a w from H.2)
    · have:=ready_mono hi hiL;rw [H.1] at this;cases this
  | succ fuel ih =>
    intro listed a w hs hc hL H;refine ⟨fun h0=>absurd h0 (ready_some hsz hs hd hL),fun i hi=>?_⟩
    by_cases hiL:i=L
    · subst hiL;have hall:=all_of_last hsz hs hf hc hi;have hr:Region.ready md ops (listed.setIfInBounds i true)=[]:=by
        rw [List.eq_nil_iff_forall_not_mem];intro k hk;obtain ⟨h0,o,ho,_⟩:=mem_ready.1 hk;have hkl:k<ops.size:=(Array.getElem?_eq_some_iff.1 ho).1
        by_cases hki:k=i
        · subst hki;rw [getD_set_self (by omega)] at h0;cases h0
        · rw [getD_set_ne true (Ne.symm hki),hall k (by omega)] at h0;cases h0
      exact wpOp_mono (fun a' w' h'=>wpAny_done hr h' _) (show wpOp P ops Q i (Q .normal) a w from H.1 hr)
    · have h1:=wpOp_last (H.2 i (ready_mono hi hiL));refine wpOp_mono (fun a' w' h'=>ih (listed.setIfInBounds i true) a' w' (by simpa using hs) (hc.set hs hi) ?_ ?_) h1
      · rw [getD_set_ne true hiL];exact hL
      · rw [Array.setIfInBounds_comm _ _ hiL];exact h'.2
theorem qI {id L:Nat} {a:Act} {w:World} (hm:P.follows .mixedOrders=true) (hsz:ops.size=L+1) (hd:downB .any ops=true) (hf:feedsB .any ops L=true)
    (h:wpAnyH P .any ops (LastQ P ops Q L) S L ((Array.replicate ops.size false).setIfInBounds L true) a { w with drawn:=w.drawn+1 }):(Code.region id ops true).wp P Q a w:=by
  refine wp_region_any hm ?_;have h2:=wpAny_last (md:=.any) (Q:=Q) (S:=S) hsz hd hf L (Array.replicate ops.size false) a { w with drawn:=w.drawn+1 } (by simp) (fun i o ho hi=>?_) (by simp [Array.getD,hsz]) h
  · rwa [← hsz] at h2
  · have hlt:=(Array.getElem?_eq_some_iff.1 ho).1;simp [Array.getD,hlt] at hi
theorem takeH {i:Nat} (d:Option Tmp) {v:Value} {fuel:Nat} {listed:Array Bool} {a:Act} {w:World} (hd:(ops[i]?).map (·.dst)=some d)
    (hs:Region.noSelect ops=true) (hf:Region.free md ops listed i=true) (hr:(Region.ready md ops listed).contains i=true)
    (hQ:∀ c a w,Q (.panic c) (a.put d v) w→Q (.panic c) a w) (hS:S w) (hy:∀ o,ops[i]?=some o→YieldsIf P ops S o v a)
    (h:wpAnyH P md ops Q S fuel (listed.setIfInBounds i true) (a.put d v) w):wpAnyH P md ops Q S (fuel+1) listed a w:=by
  cases ho:ops[i]? with
  | none=>rw [ho] at hd;cases hd
  | some o =>
    rw [ho] at hd;obtain rfl:=Option.some.inj hd;exact wpAnyH_take ho hs hf hr hQ (hy o ho) hS h
theorem oneH {i:Nat} {fuel:Nat} {listed:Array Bool} {a:Act} {w:World} (hr:Region.ready md ops listed=[i])
    (h:∀ o,ops[i]?=some o→∀ K:Act→World→Prop,RowKit.Hid (∀ a' w',S w'→wpAnyH P md ops Q S fuel (listed.setIfInBounds i true) a' w'→K a' w')→if Region.wanted o (yielded ops a.tmps)=true then Oper.wp P o a w K Q else K (a.put o.dst undef) w) :
    wpAnyH P md ops Q S (fuel+1) listed a w:=by
  refine wpAnyH_all hr (by simp) fun k hk=>?_;obtain rfl:=List.mem_singleton.1 hk;unfold wpOp
  split
  · rename_i ho;(have:k∈Region.ready md ops listed:=by rw [hr];simp);obtain ⟨_,o,ho',_⟩:=mem_ready.1 this;rw [ho] at ho';cases ho'
  · rename_i o ho;have:=h o ho (fun a' w'=>S w'∧wpAnyH P md ops Q S fuel (listed.setIfInBounds k true) a' w') (Lib.hid (fun a' w' h1 h2=>⟨h1,h2⟩))
    split
    · rename_i hw;rw [if_pos hw] at this;exact .inl this
    · rename_i hw;rw [if_neg hw] at this;exact this
theorem lastH {L:Nat} {a:Act} {w:World} (hL:L<ops.size)
    (h:∀ o,ops[L]?=some o→∀ K:Act→World→Prop,RowKit.Hid (∀ a' w',Q .normal a' w'→K a' w')→if Region.wanted o (yielded ops a.tmps)=true then Oper.wp P o a w K Q else K (a.put o.dst undef) w):LastQ P ops Q L .normal a w:=by
  show wpOp P ops Q L (Q .normal) a w;have ho:ops[L]?=some ops[L]:=Array.getElem?_eq_getElem hL;have:=h _ ho (Q .normal) (Lib.hid (fun a' w' h1=>h1));unfold wpOp;simp only [ho]
  split
  · rename_i hw;rw [if_pos hw] at this;exact .inl this
  · rename_i hw;rw [if_neg hw] at this;exact this
end
theorem tk {P:Program} {ops:Array Oper} {Q:Exit→Act→World→Prop} {md:Region.Mode} {S:World→Prop} (i:Nat) (d:Tmp) {v:Value} {fuel:Nat} {listed:Array Bool} {a:Act} {w:World} (hS:S w) (h:wpAnyH P md ops Q S fuel (listed.setIfInBounds i true) (a.put (some d) v) w)
    (hy:∀ o,ops[i]?=some o→YieldsIf P ops S o v a:=by intro o ho;simp only [List.getElem?_toArray,List.getElem?_cons_zero,List.getElem?_cons_succ,Option.some.injEq] at ho;subst ho;refine Or.inl ⟨by rfl,fun w' hSw=>?_⟩;(try dsimp only at hSw);go_simp;try with_reducible rfl)
    (hd:(ops[i]?).map (·.dst)=some (some d):=by rfl) (hs:Region.noSelect ops=true:=by kernel_rfl) (hf:Region.free md ops listed i=true:=by kernel_rfl) (hr:(Region.ready md ops listed).contains i=true:=by kernel_rfl)
    (hQ:∀ c a w,Q (.panic c) (a.put (some d) v) w→Q (.panic c) a w:=by exact fun _ _ _ h=>h):wpAnyH P md ops Q S (fuel+1) listed a w :=
  takeH (some d) hd hs hf hr hQ hS hy h
theorem aS {α:Type} (l:List α) (i:Nat) (a:α):l.toArray.setIfInBounds i a=(l.set i a).toArray:=List.setIfInBounds_toArray ..
theorem aT {α:Type} (l:List α) (i:Nat):l.toArray[i]?=l[i]?:=List.getElem?_toArray ..
end Go.Proofs.YtfoggldjjnabcaaGreatDoor
