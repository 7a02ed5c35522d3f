/- What Build tells of a module, in one word: the same whenever it is asked. -/
import Derived.Test.YtfoggldjjnabcaaSpAJ
import Derived.Test.YtfoggldjjnabcaaStaDJ
namespace Go.Proofs.Ytfoggldjjnabcaa
open Go.ChangeShapes Go.WideShapes Go.RowKit Go.Deep
set_option linter.unusedVariables false
theorem items_mem:∀ {l:List BlkD} {b:BlkD},b∈l→b.phis.length+b.ins.length≤qo l
  | x::l,b,h=>by
    (have e:qo (x::l)=(x.phis.length+x.ins.length)+qo l:=by unfold qo;rw [List.map_cons,List.sum_cons]);rcases List.mem_cons.1 h with rfl | h
    · omega
    · have:=items_mem h;omega
theorem bd_len (f:FunD):(bdF f).blocks.length=(blksT f.blocks).length:=by
  show ((List.range (trimF f).blocks.length).map (bBlk (plnOf (trimF f)))).length=_;rw [List.length_map,List.length_range];rfl
theorem small_bd {m:List FunD} {f:FunD} (hP:(plainE m).1=0) (hs:SmallM m) (hf:f∈m) (hl:lgB (bdF f)=false):SmallF (bdF f):=by
  have hB:=bdF_of hP hs hf;obtain ⟨hn1,hn2⟩:=hB.nb;have hp:=hB.par;unfold lgB at hl;rw [Bool.or_eq_false_iff] at hl;have h1:=of_decide_eq_false hl.1;have h2:=of_decide_eq_false hl.2;have hbl:(bdF f).blocks.length=(trimF f).blocks.length:=bd_len f;refine ⟨by omega,by omega,by show (trimF f).params≤1000;omega,fun b hb=>?_⟩
  have hi:=items_mem hb;obtain ⟨i,hi0⟩:=List.mem_iff_getElem?.1 hb;(have hil:i<(trimF f).blocks.length:=by have:=(List.getElem?_eq_some_iff.1 hi0).1;omega);have e:b=bBlk (plnOf (trimF f)) i:=by
    have h:(bdF f).blocks[i]?=some (bBlk (plnOf (trimF f)) i):=build_blk (P:=plnOf (trimF f)) hil;rw [h] at hi0;exact (Option.some.inj hi0).symm
  have hk:blkAt (trimF f) i∈(trimF f).blocks:=by
    (have:(trimF f).blocks[i]?=some (blkAt (trimF f) i):=by unfold blkAt;rw [List.getD_eq_getElem?_getD,List.getElem?_eq_getElem hil];rfl);exact List.mem_of_getElem? this
  obtain ⟨s1,s2,s3,s4,s5⟩:=hB.small.2.2.2 _ hk;refine ⟨by omega,by omega,by rw [e];exact s3,fun x hx=>?_,fun x hx=>?_⟩
  · rw [e] at hx;rcases List.mem_append.1 (show x∈preL (plnOf (trimF f)) i++(insB (trimF f) i).mapIdx (bIns (plnOf (trimF f)) i) from hx) with h | h
    · unfold preL at h
      split at h
      · obtain ⟨r,-,rfl⟩:=List.mem_map.1 h;show ([]:List Int).length≤300;simp
      · cases h
    · obtain ⟨j,hj,rfl⟩:=List.mem_mapIdx.1 h;show (List.map _ _).length≤300;rw [List.length_map];exact s4 _ (List.getElem_mem hj)
  · rw [e] at hx;obtain ⟨r,-,rfl⟩:=List.mem_map.1 (show x∈(phL (plnOf (trimF f)) i).map (bPhi (plnOf (trimF f)) i) from hx);show (List.map _ (qF (trimF f).blocks (i:Int))).length≤300;rw [List.length_map];have:=aheadK_len (trimF f).blocks 0 (i:Int);unfold qF;omega
def nilF:FunD:=⟨0,0,[],[]⟩
structure BdOne (m:List FunD) (g:FunD) (b:Bool):Prop where
  small:SmallF g
  bad:b=false→g=nilF
  good:b=true→(plainE m).1=0∧∃ f∈m,g=bdF f∧lgB (bdF f)=false
def ToldOne (g:FunD) (b:Bool) (w:World) (e:Ending) (w':World):Prop :=
  (∃ vf ve,e=.returned (.tuple #[vf,ve])∧VFunG (BG w.heap.size w') w' vf g∧(if b=true then ve=.nilIface else ∃ t x,ve=.iface t x))∧Below w.heap.size w w'
theorem zero_one (B:Nat→Prop) (w:World):VFunG B w zeroFV nilF:=by
  refine ⟨none,0,none,0,rfl,?_,?_,?_,?_⟩
  · exact ⟨Nat.le_refl _,⟨by unfold maxLen;omega,fun _=>rfl⟩,fun hp=>absurd hp (by simp [nilF])⟩
  · exact ⟨Nat.le_refl _,⟨by unfold maxLen;omega,fun _=>rfl⟩,fun hp=>absurd hp (by simp [nilF])⟩
  · show I64 (0:Int);unfold I64;omega
  · show I64 (0:Int);unfold I64;omega
theorem nil_small:SmallF nilF:=by
  refine ⟨Nat.zero_le _,Nat.zero_le _,?_,fun b hb=>by cases hb⟩;show (0:Int)≤1000;omega
theorem bd_one (m:List FunD) (a:Int) (hs:SmallM m):∃ g b,BdOne m g b∧∀ w e w',ToldBd m a w e w'→ToldOne g b w e w':=by
  by_cases hp:(plainE m).1=0
  · by_cases ha:0≤a∧a<m.length
    · obtain ⟨n,rfl⟩:=Int.eq_ofNat_of_zero_le ha.1;(have hn:n<m.length:=by omega);have hf:m[n]?=some m[n]:=List.getElem?_eq_getElem hn;cases hl:lgB (bdF m[n]) with
      | true =>
        refine ⟨nilF,false,⟨nil_small,fun _=>rfl,fun h=>(by cases h)⟩,fun w e w' ⟨⟨vf,ve,he,h⟩,hb⟩=>⟨⟨vf,ve,he,?_⟩,hb⟩⟩;rcases h with ⟨h,-,-⟩ | ⟨-,h,-⟩ | ⟨-,n',f',hn',hf',⟨h,rfl,rfl⟩ | ⟨h,-⟩⟩
        · exact absurd hp h
        · exact absurd ha h
        · exact ⟨zero_one _ _,by rw [if_neg (by simp)];exact ⟨_,_,rfl⟩⟩
        · (obtain rfl:n=n':=by omega);(rw [hf] at hf';obtain rfl:=Option.some.inj hf');rw [hl] at h;cases h
      | false =>
        refine ⟨bdF m[n],true,⟨small_bd hp hs (List.mem_of_getElem? hf) hl,fun h=>(by cases h),fun _=>⟨hp,_,List.mem_of_getElem? hf,rfl,hl⟩⟩,fun w e w' ⟨⟨vf,ve,he,h⟩,hb⟩=>⟨⟨vf,ve,he,?_⟩,hb⟩⟩;rcases h with ⟨h,-,-⟩ | ⟨-,h,-⟩ | ⟨-,n',f',hn',hf',⟨h,-,-⟩ | ⟨-,rfl,h⟩⟩
        · exact absurd hp h
        · exact absurd ha h
        · (obtain rfl:n=n':=by omega);(rw [hf] at hf';obtain rfl:=Option.some.inj hf');rw [hl] at h;cases h
        · (obtain rfl:n=n':=by omega);(rw [hf] at hf';obtain rfl:=Option.some.inj hf');exact ⟨h,by rw [if_pos rfl]⟩
    · refine ⟨nilF,false,⟨nil_small,fun _=>rfl,fun h=>(by cases h)⟩,fun w e w' ⟨⟨vf,ve,he,h⟩,hb⟩=>⟨⟨vf,ve,he,?_⟩,hb⟩⟩;rcases h with ⟨h,-,-⟩ | ⟨-,-,rfl,rfl⟩ | ⟨-,n',f',hn',hf',-⟩
      · exact absurd hp h
      · exact ⟨zero_one _ _,by rw [if_neg (by simp)];exact ⟨_,_,rfl⟩⟩
      · have:=(List.getElem?_eq_some_iff.1 hf').1;exact absurd ⟨by omega,by omega⟩ ha
  · refine ⟨nilF,false,⟨nil_small,fun _=>rfl,fun h=>(by cases h)⟩,fun w e w' ⟨⟨vf,ve,he,h⟩,hb⟩=>⟨⟨vf,ve,he,?_⟩,hb⟩⟩;rcases h with ⟨-,rfl,h⟩ | ⟨h,-⟩ | ⟨h,-⟩
    · exact ⟨zero_one _ _,by rw [if_neg (by simp)];exact err_form h hp⟩
    · exact absurd h hp
    · exact absurd h hp
set_option maxRecDepth 100000 in
set_option maxHeartbeats 8000000 in
theorem same_any (x y:List FunD) (v u:Value) (w:World) (hv:VMod w v x) (hu:VMod w u y) :
    Calls Try.prog 10 #[v,u] w fun e w'=>e=.returned (.bool (same x y))∧Below w.heap.size w w':=by
  obtain ⟨Ab,cb,rfl,hb⟩:=hv;obtain ⟨Bb,db,rfl,kb⟩:=hu;have hbl:=hb.len;have kbl:=kb.len;have hB:Below w.heap.size w ((w.alloc (.cells #[.slice Ab x.length cb] 24)).alloc (.cells #[.slice Bb y.length db] 24)):=((Below.refl _ _).alloc (Nat.le_refl _) _).alloc (by simp) _;have hK:=q6 hB
  by_cases e3:x.length=y.length
  · (have e3':((x.length:Int) != y.length)=false:=by simp [e3]);have E3:=Lib.hid e3;clear e3;(go_enter Try.func10,Try.ntmps10);(go_wp2_with fail);obtain ⟨w1,hw1⟩:∃ w1,w1=(w.alloc (.cells #[.slice Ab x.length cb] 24)).alloc (.cells #[.slice Bb y.length db] 24):=⟨_,rfl⟩;(have gx3:w1.cell? ⟨w.heap.size,0,none⟩=some (.slice Ab x.length cb):=by rw [hw1];simp);(have gy3:w1.cell? ⟨w.heap.size+1,0,none⟩=some (.slice Bb y.length db):=by rw [hw1];simp);rw [← hw1] at hB hK ⊢
    clear hw1;have hb0:Below w1.heap.size w1 w1:=Below.refl _ _
    go_loopw [5] (fun i wr=>∃ k:Nat,k≤x.length∧i=.int .i64 k∧Below w1.heap.size w1 wr∧Hid (x.take k=y.take k)) (fun i _=>x.length - (intOf i).toNat)
    case atStart=>exact ⟨0,Nat.zero_le _,rfl,hb0,Lib.hid rfl⟩
    case round =>
      obtain ⟨k,hk,rfl,hbel,hi2⟩:=hrel;have hkr:Kept w1 wr:=q6 hbel;have hx3:=hkr _ _ gx3;have hy3:=hkr _ _ gy3;have hBr:Below w.heap.size w wr:=hB.trans (hbel.mono hB.size)
      by_cases hlt:k<x.length
      · (have hlt2:k<y.length:=by have:=E3.out;omega);obtain ⟨b1,o1,p,rfl,hp1,⟨h1,i1⟩,⟨h2,i2⟩,⟨A3,c3,h3,g3⟩,A4,c4,h4,g4⟩:=(SFuns.keep (hK.trans hkr) hb).at_ hlt;obtain ⟨b2,o2,q,rfl,hq1,⟨k1,l1⟩,⟨k2,l2⟩,⟨B3,d3,k3,j3⟩,B4,d4,k4,j4⟩:=(SFuns.keep (hK.trans hkr) kb).at_ hlt2;(have hk0:(0:Int)≤k:=by omega);(have hk1:(k:Int)<x.length:=by omega);(have hk2:(k:Int)<y.length:=by omega);(go_wp2_with fail);(go_still_tail 10,(by kernel_rfl));change wpList _ _ _ _ _ wr.drew
        have hvp:VFun wr.drew (.agg #[.int .i64 p.params,.int .i64 p.result,.slice A3 p.regs.length c3,.slice A4 p.blocks.length c4]) p:=⟨A3,c3,A4,c4,rfl,g3,g4,i1,i2⟩;have hvq:VFun wr.drew (.agg #[.int .i64 q.params,.int .i64 q.result,.slice B3 q.regs.length d3,.slice B4 q.blocks.length d4]) q:=⟨B3,d3,B4,d4,rfl,j3,j4,l1,l2⟩;have hbd:Below w1.heap.size w1 wr.drew:=hbel.drew;have hBd:Below w.heap.size w wr.drew:=hBr.drew;generalize wr.drew=w2 at *;(go_wp2_with fail);refine (sameFunc_any p q _ _ _ hvp hvq).mono ?_;rintro e w3 ⟨rfl,hb3⟩;have hb3':Below w1.heap.size w1 w3:=hbd.trans (hb3.mono hbd.size)
        have hB3:Below w.heap.size w w3:=hBd.trans (hb3.mono hBd.size);cases hs:same p q
        · (have E2:Hid (same x y=false):=Lib.hid (qh (fun e=>ne_at hp1.out hq1.out (fun e2=>by have:=qr e2;rw [hs] at this;cases this) (by rw [e]))));clear hs;(go_wp2_with fail);(go_ret);exact ⟨by rw [E2.out];rfl,hB3⟩
        · have HS:=Lib.hid (same_iff.1 hs);clear hs;go_wp2_with fail
          go_roundw
          case rel=>exact ⟨k+1,by omega,by go_num,hb3',Lib.hid (take_snoc_eq hi2.out hp1.out hq1.out HS.out)⟩
          case measure=>simp [intOf];omega
      · (have HP:=Lib.hid (take_len_eq hi2.out (Nat.le_of_not_lt hlt) (by have:=E3.out;omega)));(go_wp2_with fail);(go_ret);exact ⟨by rw [qr HP.out];rfl,hBr⟩
  · (have e3':((x.length:Int) != y.length)=true:=by rw [bne_iff_ne];omega);have E2:Hid (same x y=false):=Lib.hid (qh (fun e=>e3 (by rw [e])));clear e3;(go_enter Try.func10,Try.ntmps10);(go_wp2_with fail);(go_ret);exact ⟨by rw [E2.out];rfl,hB⟩
end Go.Proofs.Ytfoggldjjnabcaa
