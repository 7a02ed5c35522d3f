/- Mathematics: the names that the program gives are the document's. -/
import Derived.Test.YtfoggldjjnabcaaSpTJ
import Derived.Test.YtfoggldjjnabcaaSsMJ
import Derived.Test.YtfoggldjjnabcaaDmTsJ
import Derived.Test.YtfoggldjjnabcaaSpecJ
import Derived.Test.YtfoggldjjnabcaaInfBJ
import Derived.Test.YtfoggldjjnabcaaGrNmJ
namespace Go.Proofs.Ytfoggldjjnabcaa
open Go.RowKit
set_option linter.unusedVariables false
set_option linter.unusedSimpArgs false
theorem rf_fr {f:FunD} (hn:0<f.blocks.length) {a:Nat} (ha:a<f.blocks.length):rfL f.blocks f.blocks.length a=frL f.blocks f.blocks.length a:=(nearB_of hn).fr_all ha
theorem clP_eq {f:FunD} (hn:0<f.blocks.length) (r b:Nat):clP (zF (plnOf f)).blocks r b=(plnOf f).C b r:=by
  have hlen:(zF (plnOf f)).blocks.length=f.blocks.length:=zF_len;have hto:(zF (plnOf f)).blocks.map (fun b=>b.term.to)=f.blocks.map (fun b=>b.term.to):=zF_tos (P:=plnOf f) hn;unfold clP;show _=clC (rfL f.blocks f.blocks.length) (fun b=>decide (b=0) || mkB f.blocks b r) f.blocks.length b;rw [hlen,like_fr hto,Bool.eq_iff_iff,clC_iff (fun a x hx=>frL_in a x hx),clC_iff (fun a x hx=>rfL_lt hx)];have hmk:∀ a,a<f.blocks.length→(decide (a∈mqL (zF (plnOf f)).blocks f.blocks.length r)=true↔(decide (a=0) || mkB f.blocks a r)=true):=fun a ha=>by
    rw [decide_eq_true_iff,mqL_mem,Bool.or_eq_true,decide_eq_true_iff]
    by_cases e:a=0
    · simp [e]
    · have hk:f.blocks[a]?=some f.blocks[a]:=List.getElem?_eq_getElem ha;(have hi:insA (zF (plnOf f)).blocks a=f.blocks[a].ins:=insA_at (by rw [zF_else e];exact hk));rw [hi];unfold mkB;rw [hk];simp only [mkI,List.take_length,List.any_eq_true,decide_eq_true_iff];constructor
      · rintro (h1 | ⟨-,h2⟩)
        · exact .inl h1
        · exact .inr h2
      · rintro (h1 | h2)
        · exact .inl h1
        · exact .inr ⟨ha,h2⟩
  constructor
  · exact ClG.imp (fun a ha x hx=>by rw [rf_fr hn ha];exact hx) fun a ha h=>(hmk a ha).1 h
  · exact ClG.imp (fun a ha x hx=>by rw [← rf_fr hn ha];exact hx) fun a ha h=>(hmk a ha).2 h
theorem phK_eq {f:FunD} (hn:0<f.blocks.length) {W:Nat→Nat→Bool} (hW:∀ b r,W b r=(plnOf f).W b r) (b:Nat):phK (zF (plnOf f)).blocks W b f.regs.length=phL (plnOf f) b:=by
  unfold phK phL;(congr 1);(funext r);rw [clP_eq hn,hW]
variable {m:List FunD} {P:SsP} {D:Nat→Nat→Prop} {ord:Nat→Nat}
theorem VerZ.move {r b n n' v:Nat} (e:lastD (insB P.f b) r n'=lastD (insB P.f b) r n) (h:VerZ P r b n v):VerZ P r b n' v:=by
  cases h with
  | ins h1=>exact .ins (by rw [e];exact h1)
  | phi h1 h2=>exact .phi (by rw [e];exact h1) h2
  | par h1 h2 h3=>exact .par (by rw [e];exact h1) h2 h3
  | zero h1 h2 h3 h4=>exact .zero (by rw [e];exact h1) h2 h3 h4
  | up h1 h2 h3 h4 h5=>exact .up (by rw [e];exact h1) h2 h3 h4 h5
theorem VerZ.here {r b k v:Nat} {x:InsD} (hx:(insB P.f b)[k]?=some x) (hd:x.dst=(r:Int)) (h:VerZ P r b (k+1) v):v=dsN P b k:=by
  have hl:lastD (insB P.f b) r (k+1)=some k:=by
    show (if ((insB P.f b).getD k default).dst=(r:Int) then some k else lastD (insB P.f b) r k)=_;rw [qv hx,if_pos hd]
  exact (VerZ.ins hl:VerZ P r b (k+1) _).ver.one h.ver
theorem VerZ.back {r b k v:Nat} {x:InsD} (hx:(insB P.f b)[k]?=some x) (hd:x.dst≠(r:Int)) (h:VerZ P r b (k+1) v):VerZ P r b k v:=by
  refine h.move ?_;show _=(if ((insB P.f b).getD k default).dst=(r:Int) then some k else lastD (insB P.f b) r k);rw [qv hx,if_neg hd]
def TellsV (P:SsP) (b k:Nat) (al:List Int):Prop:=∀ r v,r<P.f.regs.length→VerZ P r b k v→al[r]?=some (v:Int)
theorem phAs_at {F:FunD} {ph:Nat→List Nat} {b:Nat} {al:List Int} (hnd:(ph b).Nodup) {r:Nat} (hr:r<al.length):∀ k,k≤(ph b).length→(phAs F ph b al k)[r]?=if r∈(ph b).take k then some ((bsO F ph b+(ph b).idxOf r:Nat):Int) else al[r]?
  | 0,_=>by simp [phAs]
  | k+1,hk=>by
    have hx:(ph b)[k]?=some (ph b)[k]:=List.getElem?_eq_getElem (by omega);unfold phAs;(have hg:(ph b).getD k 0=(ph b)[k]:=by rw [List.getD_eq_getElem?_getD,hx];rfl);rw [List.getElem?_set,phAs_len,qC hx,hg]
    by_cases e:(ph b)[k]=r
    · rw [if_pos e,if_pos (show (ph b)[k]<al.length by omega),if_pos (by simp [e])];rw [← e,hnd.idxOf_getElem]
    · rw [if_neg e,phAs_at hnd hr k (by omega)];have hiff:(r∈(ph b).take k++[(ph b)[k]])↔r∈(ph b).take k:=by rw [List.mem_append,List.mem_singleton];exact ⟨fun h1=>h1.resolve_right (Ne.symm e),.inl⟩
      by_cases hm:r∈(ph b).take k
      · rw [if_pos hm,if_pos (hiff.2 hm)]
      · rw [if_neg hm,if_neg (fun h1=>hm (hiff.1 h1))]
theorem SsOk.tells_first (h:SsOk m P D ord) (h0:0<P.f.blocks.length) {b:Nat} (hb:b<P.f.blocks.length) (hb0:b≠0) {al0:List Int} (hl:al0.length=P.f.regs.length) (ht:TellsV P (P.nr b) (insB P.f (P.nr b)).length al0) :
    TellsV P b 0 (phAs (zF P) (phL P) b al0 (phL P b).length):=by
  intro r v hr hv;rw [phAs_at (show (phL P b).Nodup from List.nodup_range.filter _) (by omega) _ (Nat.le_refl _),List.take_length];cases hv with
  | ins h1=>cases h1
  | phi h1 h2 =>
    rw [if_pos h2,h.bs h0 hb0];rfl
  | par h1 h2 h3=>exact absurd rfl hb0
  | zero h1 h2 h3 h4=>exact absurd rfl hb0
  | up h1 h2 h3 h4 h5=>rw [if_neg h2];exact ht r v hr h5
theorem SsOk.outI_dst (h:SsOk m P D ord) (h0:0<P.f.blocks.length) {b k:Nat} {x:InsD} (hx:(insB P.f b)[k]?=some x):(outIs (zF P) (phL P) b)[zN P b+k]?=some ⟨x.op,if 0≤x.dst then (dsN P b k:Int) else x.dst,x.args,x.imm,x.fn⟩:=by
  (have hi:(insB (zF P) b)[zN P b+k]?=some x:=by rw [zF_ins h0,← zB_len,List.getElem?_append_right (by omega),Nat.add_sub_cancel_left];exact hx);rw [outIs_at hi];unfold outI;rw [h.num h0 (Nat.le_of_lt (List.getElem?_eq_some_iff.1 hx).1)]
theorem SsOk.outI_zero (h:SsOk m P D ord) (h0:0<P.f.blocks.length) {j r:Nat} (hj:(zrL P)[j]?=some r):(insB (zF P) 0)[j]?=some (zI r)∧(outIs (zF P) (phL P) 0)[j]?=some (zIns P r):=by
  have hjl:=(List.getElem?_eq_some_iff.1 hj).1;have hi:(insB (zF P) 0)[j]?=some (zI r):=by
    rw [zF_ins h0];unfold zB;rw [if_pos rfl,List.getElem?_append_left (by simp;exact hjl),List.getElem?_map,hj];rfl
  refine ⟨hi,?_⟩;rw [outIs_at hi];unfold outI;rw [h.zero_num h0 hj];show some (⟨1,if (0:Int)≤(r:Int) then _ else _,[],0,0⟩:InsD)=some (zIns P r);rw [if_pos (by omega)];rfl
theorem SsOk.zeros (h:SsOk m P D ord) (h0:0<P.f.blocks.length) {al:List Int} (hl:al.length=P.f.regs.length):∀ j,j≤(zrL P).length→∀ r,r<P.f.regs.length→(alK al (insB (zF P) 0) (outIs (zF P) (phL P) 0) j)[r]?=if r∈(zrL P).take j then some ((zrN P r:Nat):Int) else al[r]?
  | 0,_,r,hr=>by simp [alK]
  | j+1,hj,r,hr=>by
    have hx:(zrL P)[j]?=some (zrL P)[j]:=List.getElem?_eq_getElem (by omega);obtain ⟨e1,e2⟩:=h.outI_zero h0 hx;show (stA (alK al (insB (zF P) 0) (outIs (zF P) (phL P) 0) j) ((insB (zF P) 0).getD j default).dst ((outIs (zF P) (phL P) 0).getD j default).dst)[r]?=_;rw [qv e1,qv e2];show (stA _ (((zrL P)[j]:Nat):Int) ((zrN P (zrL P)[j]:Nat):Int))[r]?=_;unfold stA;rw [if_pos (by omega),Int.toNat_natCast,List.getElem?_set,alK_len,hl,qC hx]
    by_cases e:(zrL P)[j]=r
    · rw [if_pos e,if_pos (show (zrL P)[j]<_ by omega),if_pos (by simp [e]),e]
    · rw [if_neg e,h.zeros h0 hl j (by omega) r hr];have hiff:(r∈(zrL P).take j++[(zrL P)[j]])↔r∈(zrL P).take j:=by rw [List.mem_append,List.mem_singleton];exact ⟨fun h1=>h1.resolve_right (Ne.symm e),.inl⟩
      by_cases hm:r∈(zrL P).take j
      · rw [if_pos hm,if_pos (hiff.2 hm)]
      · rw [if_neg hm,if_neg (fun h1=>hm (hiff.1 h1))]
theorem SsOk.tells_zero (h:SsOk m P D ord) (h0:0<P.f.blocks.length):TellsV P 0 0 (alK (phAs (zF P) (phL P) 0 (entA P.f.params P.f.regs.length) (phL P 0).length) (insB (zF P) 0) (outIs (zF P) (phL P) 0) (zN P 0)):=by
  intro r v hr hv;(have hph:phAs (zF P) (phL P) 0 (entA P.f.params P.f.regs.length) (phL P 0).length=entA P.f.params P.f.regs.length:=by rw [h.no_first h0];rfl);rw [hph];show (alK _ _ _ (zrL P).length)[r]?=_;rw [h.zeros h0 (by simp [entA]) _ (Nat.le_refl _) r hr,List.take_length];(have hent:(entA P.f.params P.f.regs.length)[r]?=some (if (r:Int)<P.f.params then (r:Int) else -1):=by unfold entA;simp [hr]);cases hv with
  | ins h1=>cases h1
  | phi h1 h2=>rw [h.no_first h0] at h2;cases h2
  | par h1 h2 h3 =>
    rw [if_neg (fun hz=>by have:=(mem_zrL.1 hz).2.1;omega),hent,if_pos h3]
  | zero h1 h2 h3 h4=>rw [if_pos h4]
  | up h1 h2 h3 h4 h5=>exact absurd rfl h3
theorem SsOk.tells_step (h:SsOk m P D ord) (h0:0<P.f.blocks.length) {b:Nat} {al:List Int} (hl:al.length=P.f.regs.length) {k:Nat} {x:InsD} (hx:(insB P.f b)[k]?=some x) (hd:x.dst=-1∨InR P.f.regs.length x.dst)
    (ht:TellsV P b k (alK al (insB (zF P) b) (outIs (zF P) (phL P) b) (zN P b+k))):TellsV P b (k+1) (alK al (insB (zF P) b) (outIs (zF P) (phL P) b) (zN P b+(k+1))):=by
  intro r v hr hv;(have hi:(insB (zF P) b)[zN P b+k]?=some x:=by rw [zF_ins h0,← zB_len,List.getElem?_append_right (by omega),Nat.add_sub_cancel_left];exact hx);show (stA (alK al (insB (zF P) b) (outIs (zF P) (phL P) b) (zN P b+k)) ((insB (zF P) b).getD (zN P b+k) default).dst ((outIs (zF P) (phL P) b).getD (zN P b+k) default).dst)[r]?=_;rw [qv hi,qv (h.outI_dst h0 hx)];show (stA _ x.dst (if 0≤x.dst then (dsN P b k:Int) else x.dst))[r]?=_
  by_cases hp:0≤x.dst
  · rw [if_pos hp];unfold stA;rw [if_pos (by omega),List.getElem?_set,alK_len,hl]
    by_cases e:x.dst.toNat=r
    · rw [if_pos e,if_pos (by omega),hv.here hx (by omega)]
    · rw [if_neg e];exact ht r v hr (hv.back hx (by omega))
  · rw [if_neg hp];unfold stA;rw [if_neg hp];exact ht r v hr (hv.back hx (by omega))
theorem SsOk.tells_all (h:SsOk m P D ord) (h0:0<P.f.blocks.length) {b:Nat} {al:List Int} (hl:al.length=P.f.regs.length) (hd:∀ x∈insB P.f b,x.dst=-1∨InR P.f.regs.length x.dst)
    (ht:TellsV P b 0 (alK al (insB (zF P) b) (outIs (zF P) (phL P) b) (zN P b))):∀ k,k≤(insB P.f b).length→TellsV P b k (alK al (insB (zF P) b) (outIs (zF P) (phL P) b) (zN P b+k))
  | 0,_=>ht
  | k+1,hk=>by
    have hx:(insB P.f b)[k]?=some (insB P.f b)[k]:=List.getElem?_eq_getElem (by omega);exact h.tells_step h0 hl hx (hd _ (List.mem_of_getElem? hx)) (h.tells_all h0 hl hd ht k (by omega))
theorem TellsV.at_ {b k:Nat} {al:List Int} (h:TellsV P b k al) {r v:Nat} (hr:r<P.f.regs.length) (hv:VerZ P r b k v):atV al (r:Int)=(v:Int):=by
  unfold atV;rw [Int.toNat_natCast,List.getD_eq_getElem?_getD,h r v hr hv];rfl
theorem SsOk.named_ins (h:SsOk m P D ord) (h0:0<P.f.blocks.length) {b:Nat} (hb:b<P.f.blocks.length) {al:List Int} (hd:∀ x∈insB P.f b,(∀ a∈x.args,InR P.f.regs.length a)∧(x.dst=-1∨InR P.f.regs.length x.dst))
    (ht:∀ k,k≤(insB P.f b).length→TellsV P b k (alK al (insB (zF P) b) (outIs (zF P) (phL P) b) (zN P b+k))) :
    (outIs (zF P) (phL P) b).mapIdx (nmI al (insB (zF P) b) (outIs (zF P) (phL P) b))=(bBlk P b).ins:=by
  have hkb:P.f.blocks[b]?=some P.f.blocks[b]:=List.getElem?_eq_getElem hb;(have hol:(outIs (zF P) (phL P) b).length=zN P b+(insB P.f b).length:=by unfold outIs;rw [List.length_mapIdx,zF_ins h0,List.length_append,zB_len]);(have hpl:(preL P b).length=zN P b:=by unfold preL zN;split <;> simp);apply List.ext_getElem?;intro i;show _=(preL P b++(insB P.f b).mapIdx (bIns P b))[i]?;rw [List.getElem?_mapIdx]
  by_cases hz:i<zN P b
  · (have hb0:b=0:=by unfold zN at hz;split at hz;assumption;omega);subst hb0;have hz':i<(zrL P).length:=hz;have hx:(zrL P)[i]?=some (zrL P)[i]:=List.getElem?_eq_getElem hz';(rw [(h.outI_zero h0 hx).2,List.getElem?_append_left (by rw [hpl];exact hz)]);unfold preL;rw [if_pos rfl,List.getElem?_map,hx];rfl
  · obtain ⟨k,rfl⟩:∃ k,i=zN P b+k:=⟨i - zN P b,by omega⟩;(rw [List.getElem?_append_right (by rw [hpl];omega),hpl,Nat.add_sub_cancel_left,List.getElem?_mapIdx]);cases hx:(insB P.f b)[k]? with
    | none =>
      have hk:=List.getElem?_eq_none_iff.1 hx;rw [List.getElem?_eq_none (by rw [hol];omega)];rfl
    | some x =>
      rw [h.outI_dst h0 hx];obtain ⟨ha,hdd⟩:=hd x (List.mem_of_getElem? hx);have hkl:=(List.getElem?_eq_some_iff.1 hx).1;(have hx':(P.f.blocks[b]).ins[k]?=some x:=by rw [← qb hkb];exact hx);have hargs:verL (alK al (insB (zF P) b) (outIs (zF P) (phL P) b) (zN P b+k)) x.args=x.args.map fun a=>((vr P a.toNat b k:Nat):Int):=by
        unfold verL;refine List.map_congr_left fun a hm=>?_;(obtain ⟨q,rfl⟩:∃ q:Nat,a=(q:Int):=⟨a.toNat,by have:=(ha a hm).1;omega⟩);(have hq:q<P.f.regs.length:=by have:=(ha _ hm).2;omega);rw [(ht k (Nat.le_of_lt hkl)).at_ hq (h.ask_arg hkb hx' hq hm),Int.toNat_natCast]
      have hdst:(if 0≤x.dst then (dsN P b k:Int) else x.dst)=(if 0≤x.dst then (dsN P b k:Int) else -1):=by
        by_cases e:0≤x.dst
        · rw [if_pos e,if_pos e]
        · rw [if_neg e,if_neg e];rcases hdd with h1 | h1
          · exact h1
          · exact absurd h1.1 e
      simp only [Option.map_some];unfold nmI bIns;simp only [hargs,hdst]
def AEp (P:SsP) (b:Nat) (al:List Int):Prop:=al.length=P.f.regs.length∧(∀ z∈al,I64 z)∧TellsV P b (insB P.f b).length al
noncomputable def Ap (P:SsP) (b p r:Nat):Int:=((vr P r p (insB P.f p).length:Nat):Int)
theorem nmA_of {m:List FunD} {f:FunD} (h:SsOk m (plnOf f) (DBl f.blocks) (ordO f.blocks)) (hre:∀ b,b<f.blocks.length→qE f.blocks b=true)
    (hd:∀ b∈f.blocks,(∀ x∈b.ins,(∀ a∈x.args,InR f.regs.length a)∧(x.dst=-1∨InR f.regs.length x.dst))∧(b.term.arg=-1∨InR f.regs.length b.term.arg)) (hs:∀ b,b<f.blocks.length→bsO (zF (plnOf f)) (phL (plnOf f)) b≤1000000) (hs2:∀ b i x,b<f.blocks.length→(insB f b)[i]?=some x→dsN (plnOf f) b i≤1000000) (hp:∀ b,(phL (plnOf f) b).length≤1000) (hrl:f.regs.length≤1000) :
    NmA (zF (plnOf f)) (phL (plnOf f)) (AEp (plnOf f)) (fun b=>(bBlk (plnOf f) b).ins) (fun b=>(bTerm (plnOf f) b).arg) (Ap (plnOf f)):=by
  have h0:0<f.blocks.length:=h.fn.nb.1;have hlen:(zF (plnOf f)).blocks.length=f.blocks.length:=zF_len;have hto:(zF (plnOf f)).blocks.map (fun b=>b.term.to)=f.blocks.map (fun b=>b.term.to):=zF_tos (P:=plnOf f) h0;have hnear:nearD (zF (plnOf f)).blocks=nearD f.blocks:=like_near hto;have hord:qK (zF (plnOf f)).blocks=qK f.blocks:=like_order hto;have hN:=nearB_of (bs:=f.blocks) h0;(have hfr:∀ b,b<f.blocks.length→fromB f.blocks 0 (-1) b=true:=fun b hb=>by rw [qO];exact hre b hb);have hn0:nearD f.blocks 0=-1:=hN.none 0 h0 (.inr rfl);have hnb:∀ b,b<f.blocks.length→b≠0→∃ a,a<f.blocks.length∧nearD f.blocks b=(a:Int)∧(plnOf f).nr b=a∧ordO f.blocks a<ordO f.blocks b:=fun b hb hb0=>by
    obtain ⟨a,h1,h2,h3,h4,-⟩:=hN.some b hb (hfr b hb) hb0;have h5:=hN.ord a b h1 hb h4;(refine ⟨a,h1,h2,by show (nearD f.blocks b).toNat=a;rw [h2];rfl,?_⟩);rcases Nat.lt_or_ge (ordO f.blocks a) (ordO f.blocks b) with h6 | h6
    · exact h6
    · exact absurd (h5.2 (by omega)) h3
  have hdB:∀ b,b<f.blocks.length→∀ x∈insB f b,(∀ a∈x.args,InR f.regs.length a)∧(x.dst=-1∨InR f.regs.length x.dst):=fun b hb x hx=>by
    have hk:f.blocks[b]?=some f.blocks[b]:=List.getElem?_eq_getElem hb;rw [qb hk] at hx;exact (hd _ (List.mem_of_getElem? hk)).1 x hx
  have hi64:∀ b,b<f.blocks.length→∀ x∈outIs (zF (plnOf f)) (phL (plnOf f)) b,I64 x.dst:=fun b hb x hx=>by
    obtain ⟨i,hi⟩:=List.getElem?_of_mem hx
    by_cases hz:i<zN (plnOf f) b
    · (have hb0:b=0:=by unfold zN at hz;split at hz;assumption;omega);subst hb0;have hx0:(zrL (plnOf f))[i]?=some (zrL (plnOf f))[i]:=List.getElem?_eq_getElem hz;rw [(h.outI_zero h0 hx0).2] at hi;obtain rfl:=Option.some.inj hi;show I64 ((zrN (plnOf f) _:Nat):Int);have h1:=h.zero_num h0 hx0;have h2:=hs 0 h0;have h3:=hp 0
      (have h4:(dsL ((insB (zF (plnOf f)) 0).take i)).length≤i:=by have:=dsL_le ((insB (zF (plnOf f)) 0).take i);rw [List.length_take] at this;omega);have h5:(zrL (plnOf f)).length≤f.regs.length:=zrK_len (plnOf f).f.params ((plnOf f).W 0) (plnOf f).f.regs.length;have hz2:i<(zrL (plnOf f)).length:=hz;unfold I64;omega
    · obtain ⟨k,rfl⟩:∃ k,i=zN (plnOf f) b+k:=⟨i - zN (plnOf f) b,by omega⟩;(have hol:(outIs (zF (plnOf f)) (phL (plnOf f)) b).length=zN (plnOf f) b+(insB f b).length:=by unfold outIs;rw [List.length_mapIdx,zF_ins h0,List.length_append,zB_len];rfl);(have hkl:k<(insB f b).length:=by have:=(List.getElem?_eq_some_iff.1 hi).1;omega);have hx0:(insB (plnOf f).f b)[k]?=some (insB f b)[k]:=List.getElem?_eq_getElem hkl;rw [h.outI_dst h0 hx0] at hi;obtain rfl:=Option.some.inj hi;show I64 (if 0≤_ then _ else _);have h1:=hs2 b k _ hb hx0;have h2:=(hdB b hb _ (List.mem_of_getElem? hx0)).2
      split
      · unfold I64;omega
      · rcases h2 with h2 | h2
        · unfold I64;omega
        · unfold InR at h2;unfold I64;omega
  have main:∀ b al0,b<f.blocks.length→al0.length=f.regs.length→(∀ z∈al0,I64 z)→(if b=0 then al0=entA f.params f.regs.length else TellsV (plnOf f) ((plnOf f).nr b) (insB f ((plnOf f).nr b)).length al0) →
      AEp (plnOf f) b (alK (phAs (zF (plnOf f)) (phL (plnOf f)) b al0 (phL (plnOf f) b).length) (insB (zF (plnOf f)) b) (outIs (zF (plnOf f)) (phL (plnOf f)) b) (outIs (zF (plnOf f)) (phL (plnOf f)) b).length) ∧
      ∀ k,k≤(insB f b).length→TellsV (plnOf f) b k (alK (phAs (zF (plnOf f)) (phL (plnOf f)) b al0 (phL (plnOf f) b).length) (insB (zF (plnOf f)) b) (outIs (zF (plnOf f)) (phL (plnOf f)) b) (zN (plnOf f) b+k)):=fun b al0 hb hl h64 hst=>by
    (have hol:(outIs (zF (plnOf f)) (phL (plnOf f)) b).length=zN (plnOf f) b+(insB f b).length:=by unfold outIs;rw [List.length_mapIdx,zF_ins h0,List.length_append,zB_len];rfl);(have hpl:(phAs (zF (plnOf f)) (phL (plnOf f)) b al0 (phL (plnOf f) b).length).length=f.regs.length:=by rw [phAs_len];exact hl);have ht0:TellsV (plnOf f) b 0 (alK (phAs (zF (plnOf f)) (phL (plnOf f)) b al0 (phL (plnOf f) b).length) (insB (zF (plnOf f)) b) (outIs (zF (plnOf f)) (phL (plnOf f)) b) (zN (plnOf f) b)):=by
      by_cases hb0:b=0
      · subst hb0;rw [if_pos rfl] at hst;subst hst;exact h.tells_zero h0
      · rw [if_neg hb0] at hst;(have hz:zN (plnOf f) b=0:=by unfold zN;rw [if_neg hb0]);rw [hz];exact h.tells_first h0 hb hb0 hl hst
    have hall:=h.tells_all h0 (b:=b) hpl (fun x hx=>(hdB b hb x hx).2) ht0;(refine ⟨⟨by rw [alK_len];exact hpl,alK_i64 (phS_i64 h64 (hs b hb) _ (hp b)) (hi64 b hb) _,?_⟩,hall⟩);rw [hol];exact hall _ (Nat.le_refl _)
  refine ⟨fun i b hi=>?_,fun b hb=>?_,?_,fun b al ha=>⟨ha.1,ha.2.1⟩,fun b al0 hb hst=>?_,fun b p r al hb hp hr ha=>?_⟩
  · rw [hord] at hi;have hm:=List.mem_of_getElem? hi;have hbl:b<f.blocks.length:=orderL_lt (qe f.blocks) hm;(refine ⟨by rw [hlen];exact hbl,fun hn=>?_⟩);rw [hnear] at hn ⊢;(have hb0:b≠0:=fun e=>by subst e;rw [hn0] at hn;omega);obtain ⟨a,h1,h2,h3,h4⟩:=hnb b hbl hb0;(refine ⟨ordO f.blocks a,a,?_,by rw [hord];exact ord_at (hre a h1),h2⟩);rw [← ord_of hi];exact h4
  · rw [hord];rw [hlen] at hb;exact orderF_mem.2 (hre b hb)
  · rw [hord];have:=orderF_len f.blocks;have:=h.fn.nb.2;exact Nat.le_trans (orderF_len f.blocks) (Nat.le_trans h.fn.nb.2 (by decide))
  · rw [hlen] at hb;rw [hnear] at hst;have hk:f.blocks[b]?=some f.blocks[b]:=List.getElem?_eq_getElem hb;have hpre:al0.length=f.regs.length∧(∀ z∈al0,I64 z)∧(if b=0 then al0=entA f.params f.regs.length else TellsV (plnOf f) ((plnOf f).nr b) (insB f ((plnOf f).nr b)).length al0):=by
      by_cases hb0:b=0
      · subst hb0;rw [hn0,if_neg (by omega)] at hst;have e:al0=entA f.params f.regs.length:=hst;(refine ⟨by rw [e];simp [entA],fun z hz=>?_,by rw [if_pos rfl];exact e⟩);rw [e] at hz;unfold entA at hz;obtain ⟨r,hr,rfl⟩:=List.mem_map.1 hz;rw [List.mem_range] at hr;unfold I64;split <;> omega
      · obtain ⟨a,h1,h2,h3,-⟩:=hnb b hb hb0;rw [h2,if_pos (by omega),Int.toNat_natCast] at hst;exact ⟨hst.1,hst.2.1,by rw [if_neg hb0,h3];exact hst.2.2⟩
    obtain ⟨q1,q2⟩:=main b al0 hb hpre.1 hpre.2.1 hpre.2.2;refine ⟨q1,h.named_ins h0 hb (hdB b hb) q2,?_⟩;(have hta:(blkAt (zF (plnOf f)) b).term=f.blocks[b].term:=by rw [zF_term h0];show (blkAt f b).term=_;rw [show blkAt f b=f.blocks[b] from qv hk]);have htb:(bTerm (plnOf f) b).arg=if 0≤f.blocks[b].term.arg then ((vr (plnOf f) f.blocks[b].term.arg.toNat b (insB f b).length:Nat):Int) else -1:=by
      have hbk:blkAt (plnOf f).f b=f.blocks[b]:=qv hk;unfold bTerm;rw [hbk];rfl
    rw [hta];show _=(bTerm (plnOf f) b).arg;rw [htb];have hrg:=(hd _ (List.mem_of_getElem? hk)).2
    by_cases e:0≤f.blocks[b].term.arg
    · rw [if_pos e,if_pos e];obtain ⟨r,hr⟩:∃ r:Nat,f.blocks[b].term.arg=(r:Int):=⟨f.blocks[b].term.arg.toNat,by omega⟩;rw [hr,Int.toNat_natCast];(have hrl:r<f.regs.length:=by rcases hrg with h1 | h1;omega;unfold InR at h1;omega);refine q1.2.2.at_ hrl ?_;have hv:=h.ask_term (b:=b) (r:=r) hk hrl hr;rw [← qb hk] at hv;exact hv
    · rw [if_neg e,if_neg e];rcases hrg with h1 | h1
      · exact h1
      · exact absurd h1.1 e
  · rw [hlen] at hb;(have hah:qF (zF (plnOf f)).blocks (b:Nat)=qF f.blocks (b:Nat):=by unfold qF;exact aheadK_like hto _ _);rw [hah] at hp;(have hpl:p<f.blocks.length:=by have:=qu f.blocks 0 (b:Nat) p hp;simp at this;omega);have hk:f.blocks[p]?=some f.blocks[p]:=List.getElem?_eq_getElem hpl;have hv:=h.ask_phi (p:=p) hk hb hp hr;have hrl:=(mem_phL.1 hr).1;rw [← qb hk] at hv;exact ha.2.2.at_ hrl hv
end Go.Proofs.Ytfoggldjjnabcaa

namespace Go.Proofs.Ytfoggldjjnabcaa
open Go.ChangeShapes Go.WideShapes Go.RowKit Go.Deep
set_option linter.unusedVariables false
theorem ins_dst {m:List FunD} {f:FunD} {x:InsD} (h:insE m f x=0):(∀ a∈x.args,InR f.regs.length a)∧(x.dst=-1∨InR f.regs.length x.dst):=by
  unfold insE at h
  by_cases h17:x.op=17
  · rw [if_pos h17] at h;obtain ⟨h1,h⟩:=qY (by decide) h;obtain ⟨h2,h⟩:=qY (by decide) h;obtain ⟨g1,g2⟩:=rest_in h;exact ⟨g1,by rcases g2 with g2 | g2;exact .inl g2.2;exact .inr g2.2⟩
  · rw [if_neg h17] at h
    split at h
    · exact absurd h (by decide)
    · rename_i ts d hs;obtain ⟨hl,h⟩:=qY (by decide) h;obtain ⟨g1,g2⟩:=rest_in h;exact ⟨g1,by rcases g2 with g2 | g2;exact .inl g2.2;exact .inr g2.2⟩
theorem term_arg {f:FunD} {t:TermD} (h:termE f t=0):t.arg=-1∨InR f.regs.length t.arg:=by
  unfold termE at h
  by_cases h0:wantOf f t=0
  · rw [if_pos h0] at h;exact .inl (qY (by decide) h).1
  · rw [if_neg h0] at h;exact .inr (qY (by decide) h).1
theorem Try.info125:(Try.prog.info? 125).map (fun i=>(i.zero,i.size,i.bytes))=some (some (.agg #[.int .i64 0,.int .i64 0]),2,16):=by kernel_rfl
theorem Try.underlying93:Try.prog.underlying 93=some (.slice 125):=by kernel_rfl
def ToldW (Wa:World) (H Ga n R K:Nat) (W:World) (vo:Value) (mk ph:Nat→Nat→Bool) (s':LvS) (e:Ending) (W':World):Prop :=
  e=.returned (.tuple #[])∧∃ vo',WsM Wa H Ga n R K W' vo' mk ph s'∧GroS H (H+4 * (n+1)) W W' vo vo'
set_option maxRecDepth 100000 in
set_option maxHeartbeats 8000000 in
theorem atBeginning_any (Wa:World) (H Ga n R K:Nat) (W:World) (vo:Value) (mk ph:Nat→Nat→Bool) (s:LvS) (h:WsM Wa H Ga n R K W vo mk ph s) (hf:FewS n R s) (hn:n≤64) (hR:R≤256) (b r:Nat) (hb:b<n) (hr:r<R) :
    Calls Try.prog 66 #[.pointer (some ⟨H+4 * (n+1),0,none⟩),.int .i64 (b:Int),.int .i64 (r:Int)] W (ToldW Wa H Ga n R K W vo mk ph (atB ph s b r)):=by
  obtain ⟨i1,hi,hz0,hz1,hz2⟩:=info_parts Try.info125;have HI1:=Lib.hid (And.intro hi (And.intro hz0 (And.intro hz1 hz2)));clear hi hz0 hz1 hz2;(have hnR:n * R≤16384:=by have:=Nat.mul_le_mul hn hR;omega);have hol:s.op.length≤16384:=Nat.le_trans hf.le hnR;obtain ⟨P,hP⟩:∃ P,H+4 * (n+1)=P:=⟨_,rfl⟩;obtain ⟨G2,hG2⟩:∃ G2,H+(n+1)=G2:=⟨_,rfl⟩;obtain ⟨G3,hG3⟩:∃ G3,H+2 * (n+1)=G3:=⟨_,rfl⟩;obtain ⟨p0,p1,p2,p3,p4,p5,p6⟩:=h.cells hP
  obtain ⟨a1,a2,a3⟩:=h.g3.at_ hb hr;obtain ⟨q1,q2,-⟩:=h.g2.at_ hb hr;rw [hG2] at q1 q2 p2;rw [hG3] at a1 a2 a3 p3;have HM:=Lib.hid h;have HH:=Lib.hid (And.intro hP (And.intro hG2 hG3));(have hPG:G3<P∧G2<G3∧G3+1+b<P:=by omega);obtain ⟨hPG1,hPG2,hPG3⟩:=hPG;have hb0:(0:Int)≤b:=by omega
  (have hb1:(b:Int)<n:=by omega);(have hr0:(0:Int)≤r:=by omega);(have hr1:(r:Int)<R:=by omega);rw [hP];clear h hf hP hG2 hG3 hnR p0 p1 p4;(go_enter Try.func66,Try.ntmps66);cases hA:s.A b r
  · cases hph:ph b r
    · rw [hA] at a2;rw [hph] at q2;(have HS:Hid (atB ph s b r=⟨setB s.A b r,s.E,s.op++[(b,r)]⟩):=Lib.hid (by unfold atB;rw [hA,hph];rfl));clear hA hph;obtain ⟨W1,hW1⟩:∃ W1,W.setCell ⟨G3+1+b,r,none⟩ (.bool true)=W1:=⟨_,rfl⟩;(have hM1:WsM Wa H Ga n R K W1 vo mk ph ⟨setB s.A b r,s.E,s.op⟩:=by rw [← hW1,← HH.out.2.2];exact HM.out.setA r hb);obtain ⟨-,-,-,-,-,t5,t6⟩:=hM1.cells HH.out.1;have HM1:=Lib.hid hM1;have HO:Hid (W1.ownsRow K 125 2 vo s.op.length (opF s.op)):=Lib.hid hM1.op
      (have hz1:W.heap.size=W1.heap.size:=by rw [← hW1];simp);obtain ⟨Av,cv,hvo⟩:=qL hM1.op;have HW1:=Lib.hid hW1;obtain ⟨lo,hlo⟩:∃ lo,s.op.length=lo:=⟨_,rfl⟩;have HLO:=Lib.hid hlo;rw [hlo] at hol hvo;(have HOV:Hid (W1.ownsRow K 125 2 (.slice Av lo cv) lo (opF s.op)):=Lib.hid (by have h1:=HO.out;rw [hlo,hvo] at h1;exact h1));have HVO:=Lib.hid hvo;rw [hvo] at t5
      clear hM1 hlo hvo HO
      go_wp2_with (first | rw [hW1] |
        (at_builtin;refine wpList_append_lies _ rfl (.tmp 41) (.tmp 45) 93 rfl K 125 i1 (.agg #[.int .i64 0,.int .i64 0]) 2 16 Try.underlying93 HI1.out.1 HI1.out.2.1 HI1.out.2.2.1 HI1.out.2.2.2 rfl (by decide) _ lo (opF s.op) rfl (HOV.out.alloc _) ⟨W1.heap.size,0,none⟩ 1 1 [.int .i64 (b:Int),.int .i64 (r:Int)] rfl rfl (qf W1 #[.int .i64 (b:Int),.int .i64 (r:Int)] _ rfl) (by simp [Value.oneCell']) (by decide) ?e3 ?e4 ?e5 (W1.heap.size+1) ?e6 ?_))
      case e3=>unfold maxLen;omega
      case e4=>omega
      case e5=>have:=HM1.out.kw;simp;omega
      case e6=>simp
      intro g cap w6 hown6 hgrow6 hloc6 hlt6;(have hgr:GroD W1 w6 vo (.slice (some ⟨g,0,none⟩) (lo+1) cap):=by rw [HVO.out];exact qU hgrow6 hloc6);(have hbxC:w6.heap[P]?=W1.heap[P]?:=hgr.block P (by have h1:=HM1.out.box;rw [HH.out.1] at h1;exact (Array.getElem?_eq_some_iff.1 h1).1) (fun e=>by have:=(HM1.out.op.lt P e).1;have:=HM1.out.hk;have:=HH.out.1;omega));(have hMN:=WsM.setOp HM1.out hgr (l:=s.op++[(b,r)]) (by rw [List.length_append,HLO.out,opF_snoc];simpa using hown6));rw [HH.out.1] at hMN;have hGR:GroS H (H+4 * (n+1)) W (w6.setCell ⟨P,5,none⟩ (.slice (some ⟨g,0,none⟩) (lo+1) cap)) vo (.slice (some ⟨g,0,none⟩) (lo+1) cap):=by
        (refine GroS.trans (b:=W1) (v:=vo) ?_ (GroS.trans (b:=w6) (v:=.slice (some ⟨g,0,none⟩) (lo+1) cap) (.of_groD hgr) (GroS.store _ _ (by have:=HH.out;show H≤P∧P≤_;omega) _)));rw [← HW1.out];exact GroS.store _ _ (by have:=HH.out;show H≤G3+1+b∧G3+1+b≤_;omega) _
      have HMN:=Lib.hid hMN;have HGR:=Lib.hid hGR;have r5:=(World.cell?_of_block (a:=⟨P,5,none⟩) hbxC).trans t5;have r6:=(World.frozen?_of_block (a:=⟨P,5,none⟩) hbxC).trans t6;clear hown6 hgrow6 hloc6 hlt6 hgr hbxC hMN hGR t5 t6;(go_wp2_with fail);(go_end0);exact ⟨rfl,_,by rw [HS.out];exact HMN.out,HGR.out⟩
    · rw [hA] at a2;rw [hph] at q2;(have HS:Hid (atB ph s b r=s):=Lib.hid (by unfold atB;rw [hA,hph];rfl));clear hA hph;(go_wp2_with fail);(go_end0);exact ⟨rfl,vo,by rw [HS.out];exact HM.out,GroS.refl _ _ _ _⟩
  · rw [hA] at a2;(have HS:Hid (atB ph s b r=s):=Lib.hid (by unfold atB;rw [hA];rfl));clear hA;(go_wp2_with fail);(go_end0);exact ⟨rfl,vo,by rw [HS.out];exact HM.out,GroS.refl _ _ _ _⟩
set_option maxRecDepth 100000 in
set_option maxHeartbeats 8000000 in
theorem atEnd_any (Wa:World) (H Ga n R K:Nat) (W:World) (vo:Value) (mk ph:Nat→Nat→Bool) (s:LvS) (h:WsM Wa H Ga n R K W vo mk ph s) (hf:FewS n R s) (hn:n≤64) (hR:R≤256) (b r:Nat) (hb:b<n) (hr:r<R) :
    Calls Try.prog 79 #[.pointer (some ⟨H+4 * (n+1),0,none⟩),.int .i64 (b:Int),.int .i64 (r:Int)] W (ToldW Wa H Ga n R K W vo mk ph (atE mk ph s b r)):=by
  obtain ⟨P,hP⟩:∃ P,H+4 * (n+1)=P:=⟨_,rfl⟩;obtain ⟨G4,hG4⟩:∃ G4,H+3 * (n+1)=G4:=⟨_,rfl⟩;obtain ⟨p0,p1,p2,p3,p4,p5,p6⟩:=h.cells hP;obtain ⟨a1,a2,a3⟩:=h.g4.at_ hb hr;rw [hG4] at a1 a2 a3 p4;have HM:=Lib.hid h;have HF:=Lib.hid hf;have HH:=Lib.hid (And.intro hP hG4);have hPG:G4<P∧G4+1+b<P:=by omega
  obtain ⟨hPG1,hPG2⟩:=hPG;(have hb0:(0:Int)≤b:=by omega);(have hb1:(b:Int)<n:=by omega);(have hr0:(0:Int)≤r:=by omega);(have hr1:(r:Int)<R:=by omega);rw [hP];cases hE:s.E b r
  · rw [hE] at a2;obtain ⟨W1,hW1⟩:∃ W1,W.setCell ⟨G4+1+b,r,none⟩ (.bool true)=W1:=⟨_,rfl⟩;(have hM1:WsM Wa H Ga n R K W1 vo mk ph ⟨s.A,setB s.E b r,s.op⟩:=by rw [← hW1,← hG4];exact h.setE r hb);have hF1:FewS n R ⟨s.A,setB s.E b r,s.op⟩:=hf;obtain ⟨-,t1,-⟩:=hM1.cells hP;obtain ⟨q1,q2,-⟩:=hM1.g1.at_ hb hr;have HM1:=Lib.hid hM1;(have HG1:Hid (GroS H (H+4 * (n+1)) W W1 vo vo):=Lib.hid (by rw [← hW1];exact GroS.store _ _ (by show H≤G4+1+b∧G4+1+b≤_;omega) _));cases hmk:mk b r
    · rw [hmk] at q2;have hcl:=atBeginning_any Wa H Ga n R K W1 vo mk ph ⟨s.A,setB s.E b r,s.op⟩ hM1 hF1 hn hR b r hb hr;rw [hP] at hcl;have HCL:=Lib.hid hcl;(have HS:Hid (atE mk ph s b r=atB ph ⟨s.A,setB s.E b r,s.op⟩ b r):=Lib.hid (by unfold atE;rw [if_neg (by rw [hE];simp),if_neg (by rw [hmk];simp)]));clear h hf hP hG4 hE hmk hM1 hF1 hcl p0 p1 p2 p3 p5 p6;(go_enter Try.func79,Try.ntmps79);(go_wp2_with (first | rw [hW1] | (go_at_call 66;refine HCL.out.mono ?_;rintro e w2 ⟨rfl,vo',hM2,hG2⟩)));go_end0
      exact ⟨rfl,vo',by rw [HS.out];exact hM2,HG1.out.trans hG2⟩
    · rw [hmk] at q2;(have HS:Hid (atE mk ph s b r=⟨s.A,setB s.E b r,s.op⟩):=Lib.hid (by unfold atE;rw [if_neg (by rw [hE];simp),if_pos hmk]));clear h hf hP hG4 hE hmk hM1 hF1 p0 p1 p2 p3 p5 p6;(go_enter Try.func79,Try.ntmps79);(go_wp2_with (rw [hW1]));(go_end0);exact ⟨rfl,vo,by rw [HS.out];exact HM1.out,HG1.out⟩
  · rw [hE] at a2;(have HS:Hid (atE mk ph s b r=s):=Lib.hid (by unfold atE;rw [if_pos hE]));clear h hf hP hG4 hE p0 p1 p2 p3 p5 p6;(go_enter Try.func79,Try.ntmps79);(go_wp2_with fail);(go_end0);exact ⟨rfl,vo,by rw [HS.out];exact HM.out,GroS.refl _ _ _ _⟩
theorem Try.infoL59:(Try.prog.info? 59).map (fun i=>(i.zero,i.size,i.bytes))=some (some (.slice none 0 0),1,24):=by kernel_rfl
theorem Try.underlyingL54:Try.prog.underlying 54=some (.slice 59):=by kernel_rfl
def LayR (w4:World) (G n R j:Nat) (wq:World):Prop :=
  wq.heap.size=G+1+j∧wq.rowIs G 59 n (fun a=>if a<j then .slice (some ⟨G+1+a,0,none⟩) R R else .slice none 0 0)∧(∀ a,a<j→wq.rowIs (G+1+a) 4 R (fun _=>.bool false))∧FrX (fun b=>b=G) w4 wq
theorem LayR.step {w4 wq:World} {G n R j:Nat} (h:LayR w4 G n R j wq):LayR w4 G n R (j+1) ((wq.setCell ⟨G,j,none⟩ (.slice (some ⟨wq.heap.size,0,none⟩) R R)).alloc (.cells (madeCells #[.bool false] R) 4)):=by
  obtain ⟨h1,h2,h3,h4⟩:=h;have hs:∀ y,y≠G→(wq.setCell ⟨G,j,none⟩ (.slice (some ⟨wq.heap.size,0,none⟩) R R)).heap[y]?=wq.heap[y]?:=fun y hy=>Below.heap_setCell _ _ _ _ hy;(have hz:(wq.setCell ⟨G,j,none⟩ (.slice (some ⟨wq.heap.size,0,none⟩) R R)).heap.size=wq.heap.size:=by simp);have hnew:=heap_alloc_new (wq.setCell ⟨G,j,none⟩ (.slice (some ⟨wq.heap.size,0,none⟩) R R)) (.cells (madeCells #[.bool false] R) 4);refine ⟨by simp;omega,?_,fun a ha=>?_,(h4.setCell (.inl rfl) _).alloc _⟩
  · refine ((h2.set j _).of_block (Below.heap_alloc _ _ _ (by have:=h2.lt;omega))).congr fun a _=>?_
    by_cases e:a=j
    · subst e;simp only [if_true];rw [if_pos (by omega),h1]
    · simp only [if_neg e]
      by_cases e2:a<j
      · rw [if_pos e2,if_pos (by omega)]
      · rw [if_neg e2,if_neg (by omega)]
  · by_cases e:a=j
    · subst e;(have e:G+1+a=(wq.setCell ⟨G,a,none⟩ (.slice (some ⟨wq.heap.size,0,none⟩) R R)).heap.size:=by omega);rw [← e] at hnew;exact ⟨_,hnew,size_madeCells _ _,fun i hi=>by simp [madeCells,hi,Nat.mod_one]⟩
    · exact (h3 a (by omega)).of_block ((Below.heap_alloc _ _ _ (by omega)).trans (hs _ (by omega)))
theorem LayR.all {w4 wq:World} {G n R:Nat} (h:LayR w4 G n R n wq):BG1 wq G n R (fun _ _=>false) :=
  ⟨h.2.1.congr fun a ha=>by rw [if_pos ha],h.2.2.1⟩
set_option maxRecDepth 100000 in
set_option maxHeartbeats 8000000 in
theorem truths_any (n R:Nat) (hn:n≤64) (hR:R≤256) (w:World) :
    Calls Try.prog 64 #[.int .i64 (n:Int),.int .i64 (R:Int)] w fun e w'=>e=.returned (.slice (some ⟨w.heap.size,0,none⟩) n n)∧BG1 w' w.heap.size n R (fun _ _=>false)∧w'.heap.size=w.heap.size+(n+1)∧Below w.heap.size w w':=by
  have hmk:=run_make_row' (P:=Try.prog) 54 59 (.slice none 0 0) 24 Try.underlyingL54 Try.infoL59 rfl .i64 .i64 n (by omega) (by omega);have hmk3:=run_make_row' (P:=Try.prog) 59 4 (.bool false) 1 Try.underlying59 Try.info4 rfl .i64 .i64 R (by omega) (by omega);have HMK:=Lib.hid hmk3;clear hmk3;(go_enter Try.func64,Try.ntmps64);(go_upto_region 2 with fail);clear hmk;obtain ⟨G,hG⟩:∃ G,G=w.heap.size:=⟨_,rfl⟩;obtain ⟨w4,hw4⟩:∃ w4,w4=w.alloc (.cells (madeCells #[.slice none 0 0] n) 59):=⟨_,rfl⟩
  have hlay:LayR w4 G n R 0 w4:=by
    subst hw4 hG;exact ⟨by simp,(World.rowIs_made w _ _ _).congr fun a _=>by simp,fun a ha=>by omega,FrX.refl _ _⟩
  (have HB4:Hid (Below w.heap.size w w4):=Lib.hid (by rw [hw4];exact (Below.refl _ _).alloc (Nat.le_refl _) _));have HGG:=Lib.hid hG;have HLAY:=Lib.hid hlay;rw [← hw4,← hG];clear hw4 hG hlay;go_wp2_with fail
  go_loopw [11] (fun s11 wq=>∃ j:Nat,j≤n∧s11=.int .i64 (j:Int)∧LayR w4 G n R j wq) (fun s11 _=>n - (intOf s11).toNat)
  case atStart=>exact ⟨0,Nat.zero_le _,rfl,HLAY.out⟩
  case round =>
    obtain ⟨j,hj,rfl,hl⟩:=hrel;have HL:=Lib.hid hl
    by_cases hjn:j<n
    · have hmk:=HMK.out;(have xc:wr.cell? ⟨G,j,none⟩=some (.slice none 0 0):=by have:=hl.2.1.cell hjn;rwa [if_neg (by omega)] at this);have xf:=hl.2.1.frozen j;have hG:=hl.2.1.lt;(have hj0:(0:Int)≤j:=by omega);(have hj1:(j:Int)<n:=by omega);have HST:=Lib.hid (LayR.step hl);clear hl;go_wp2_with fail
      go_roundw
      case rel=>exact ⟨j+1,by omega,by go_num,HST.out⟩
      case measure=>simp [intOf];omega
    · (obtain rfl:j=n:=by omega);clear hl;(go_wp2_with fail);(go_ret);refine ⟨by rw [← HGG.out];rfl,by rw [← HGG.out];exact HL.out.all,by have:=HL.out.1;have:=HGG.out;omega,HB4.out.trans (HL.out.2.2.2.below ?_ (fun b hb=>?_))⟩
      · exact HB4.out.size
      · have:=HGG.out;have hb:b=G:=hb;omega
set_option maxRecDepth 100000 in
set_option maxHeartbeats 8000000 in
theorem use_any (W:World) (B1 B2 GM R K r:Nat) (vu:Value) (l:List Nat) (m:Bool) (b1:W.heap[B1]?=some (.cells #[.slice (some ⟨GM,0,none⟩) R R] 59)) (b2:W.heap[B2]?=some (.cells #[vu] 28)) (hm:W.cell? ⟨GM,r,none⟩=some (.bool m))
    (ho:W.ownsRow K 3 1 vu l.length (l.map fun y:Nat=>Value.int .i64 (y:Int))) (hr:r<R) (hR:R≤256) (hl:l.length≤200000) (hK:B2<K) (hKW:K≤W.heap.size) :
    Calls Try.prog 78 #[.int .i64 (r:Int),.pointer (some ⟨B1,0,none⟩),.pointer (some ⟨B2,0,none⟩)] W fun e W'=>e=.returned (.tuple #[])∧∃ vu',W'.heap[B2]?=some (.cells #[vu'] 28)∧W'.ownsRow K 3 1 vu' (if m=true then l else l++[r]).length ((if m=true then l else l++[r]).map fun y:Nat=>Value.int .i64 (y:Int))∧GroS B2 B2 W W' vu vu':=by
  obtain ⟨i0,hi,hz0,hz1,hz2⟩:=info_parts Try.info3;have HI:=Lib.hid (And.intro hi (And.intro hz0 (And.intro hz1 hz2)));clear hi hz0 hz1 hz2;have c1:=q5 b1 0;have c2:=q5 b2 0;(have f2:W.frozen? ⟨B2,0,none⟩=false:=by simp [World.frozen?,b2]);have HB2:=Lib.hid b2;have HO:=Lib.hid ho;have hlt:B2<W.heap.size:=(Array.getElem?_eq_some_iff.1 b2).1
  (have hr0:(0:Int)≤r:=by omega);(have hr1:(r:Int)<R:=by omega);obtain ⟨Av,cv,hv⟩:=qL ho;obtain ⟨lz,hlz⟩:∃ lz,l.length=lz:=⟨_,rfl⟩;rw [hlz] at hv hl;have HLZ:=Lib.hid hlz;have HV:=Lib.hid hv;(have HOV:Hid (W.ownsRow K 3 1 (.slice Av lz cv) lz (l.map fun y:Nat=>Value.int .i64 (y:Int))):=Lib.hid (by rw [hv,hlz] at ho;exact ho));rw [hv] at c2
  clear b1 b2 ho hlz hv;(go_enter Try.func78,Try.ntmps78);cases m
  · go_wp2_with (at_builtin;refine wpList_append_lies _ rfl (.tmp 9) (.tmp 11) 28 rfl K 3 i0 (.int .i64 0) 1 8 Try.underlying28 HI.out.1 HI.out.2.1 HI.out.2.2.1 HI.out.2.2.2 rfl (by decide) _ lz _ rfl (HOV.out.alloc _) ⟨W.heap.size,0,none⟩ 1 1 [.int .i64 (r:Int)] rfl rfl ?e1 ?e2 (by decide) ?e3 ?e4 ?e5 (W.heap.size+1) ?e6 ?_)
    case e1=>exact qR W _ _ rfl
    case e2=>exact ints_oneCell .i64 [(r:Int)]
    case e3=>unfold maxLen;omega
    case e4=>omega
    case e5=>simp;omega
    case e6=>simp
    intro g cap w6 hown6 hgrow6 hloc6 hlt6;(have hgr:GroD W w6 vu (.slice (some ⟨g,0,none⟩) (lz+1) cap):=by rw [HV.out];exact qU hgrow6 hloc6);(have hbC:w6.heap[B2]?=some (.cells #[vu] 28):=(hgr.block B2 hlt (fun e=>by have:=(HO.out.lt B2 e).1;omega)).trans HB2.out);(have q0:w6.cell? ⟨B2,0,none⟩=some (.slice Av lz cv):=by rw [← HV.out];exact q5 hbC 0);(have q1:w6.frozen? ⟨B2,0,none⟩=false:=by simp [World.frozen?,hbC]);have HBC:=Lib.hid hbC;have HGR:=Lib.hid hgr;have HON:=Lib.hid hown6;clear hgr hbC hown6 hgrow6 hloc6 hlt6 c2 f2 c1 hm
    (go_wp2_with fail);(go_end0);refine ⟨rfl,_,?_,?_,(GroS.of_groD HGR.out).trans (GroS.store _ _ (p:=⟨B2,0,none⟩) ⟨Nat.le_refl _,Nat.le_refl _⟩ _)⟩
    · simp [World.setCell,Array.getElem?_modify,HBC.out]
    · rw [HLZ.out];exact qD (by simpa using HON.out) (fun g' hg'=>Below.heap_setCell _ _ _ _ (fun e=>by have:=(HON.out.lt g' hg').1;have e:g'=B2:=e;omega))
  · (go_wp2_with fail);(go_end0);exact ⟨rfl,vu,HB2.out,HO.out,GroS.refl _ _ _ _⟩
structure UseOk (R:Nat) (k:BlkD):Prop where
  ins:∀ x∈k.ins,(∀ a∈x.args,InR R a)∧(x.dst=-1∨InR R x.dst)∧x.args.length≤300
  len:k.ins.length≤300
  arg:k.term.arg=-1∨InR R k.term.arg
theorem usA_len (ins:List InsD) (i:Nat) (args:List Int):(usA ins i args).length≤args.length:=by unfold usA;refine Nat.le_trans (List.length_filter_le _ _) (by simp)
theorem usA_zero (ins:List InsD) (i:Nat) (args:List Int):usA ins i (args.take 0)=[]:=by simp [usA]
theorem usA_step {ins:List InsD} {i j:Nat} {args:List Int} {r:Nat} (h:args[j]?=some (r:Int)):usA ins i (args.take (j+1))=if mkI ins i r=true then usA ins i (args.take j) else usA ins i (args.take j)++[r]:=by
  unfold usA;rw [qC h,List.map_append,List.filter_append];simp only [List.map_cons,List.map_nil,Int.toNat_natCast];cases hm:mkI ins i r <;> simp [hm]
theorem usK_len {ins:List InsD} (h:∀ x∈ins,x.args.length≤300) (i:Nat):(usK ins i).length≤300 * i:=by
  induction i with
  | zero=>simp [usK]
  | succ i ih =>
    cases hx:ins[i]? with
    | none =>
      (have:usK ins (i+1)=usK ins i++[]:=by show usK ins i++(match ins[i]? with | some x=>_ | none=>_)=_;rw [hx]);rw [this,List.append_nil];omega
    | some x =>
      rw [usK_succ hx,List.length_append];have h1:=usA_len ins i x.args;have h2:=h x (List.mem_of_getElem? hx);omega
structure LvOk (f:FunD):Prop where
  nb:f.blocks.length≤64
  nr:f.regs.length≤256
  use:∀ (i:Nat) (k:BlkD),f.blocks[i]?=some k→UseOk f.regs.length k
  phi:∀ (i:Nat) (k:BlkD),f.blocks[i]?=some k→k.phis.length≤300∧∀ p∈k.phis,p.args.length=(qF f.blocks i).length∧InR f.regs.length p.dst∧∀ a∈p.args,InR f.regs.length a
theorem usA_lt {R:Nat} {ins:List InsD} {i:Nat} {args:List Int} (h:∀ a∈args,InR R a):∀ r∈usA ins i args,r<R:=by
  intro r hr;unfold usA at hr;obtain ⟨a,ha,e⟩:=List.mem_map.1 (List.mem_filter.1 hr).1;have:=h a ha;unfold InR at this;omega
theorem usK_lt {R:Nat} {k:BlkD} (h:UseOk R k) (i:Nat):∀ r∈usK k.ins i,r<R:=by
  induction i with
  | zero=>intro r hr;simp [usK] at hr
  | succ i ih =>
    intro r hr;cases hx:k.ins[i]? with
    | none =>
      (have e:usK k.ins (i+1)=usK k.ins i++[]:=by show usK k.ins i++(match k.ins[i]? with | some x=>_ | none=>_)=_;rw [hx]);rw [e,List.append_nil] at hr;exact ih r hr
    | some x =>
      rw [usK_succ hx] at hr;rcases List.mem_append.1 hr with hr | hr
      · exact ih r hr
      · exact usA_lt (h.ins x (List.mem_of_getElem? hx)).1 r hr
theorem usB_lt {R:Nat} {k:BlkD} (h:UseOk R k):∀ r∈usB k,r<R:=by
  intro r hr;unfold usB at hr;rcases List.mem_append.1 hr with hr | hr
  · exact usK_lt h _ r hr
  · unfold usE at hr
    split at hr
    · rename_i h1;rw [List.mem_singleton.1 hr];rcases h.arg with h2 | h2
      · omega
      · unfold InR at h2;omega
    · cases hr
theorem usB_len {R:Nat} {k:BlkD} (h:UseOk R k):(usB k).length≤90001:=by
  have h1:=usK_len (fun x hx=>(h.ins x hx).2.2) k.ins.length;have h2:=h.len;unfold usB;rw [List.length_append];(have h3:(usE k).length≤1:=by unfold usE;split <;> simp);omega
theorem prP_at {ah args:List Int} {j:Nat} {x a:Int} (hx:ah[j]?=some x) (ha:args[j]?=some a):(prP ah args)[j]?=some (x.toNat,a.toNat):=by
  unfold prP;have h1:=List.getElem?_eq_some_iff.1 hx;have h2:=List.getElem?_eq_some_iff.1 ha;rw [List.getElem?_map,(List.getElem?_zip_eq_some (z:=(x,a))).2 ⟨hx,ha⟩];rfl
theorem prP_len {ah args:List Int} (h:args.length=ah.length):(prP ah args).length=ah.length:=by unfold prP;rw [List.length_map,List.length_zip,h];omega
theorem ah_lt {bs:List BlkD} {t j:Nat} {x:Int} (h:(qF bs t)[j]?=some x):∃ q:Nat,x=(q:Int)∧q<bs.length:=by
  have h2:=qu bs 0 t x (List.mem_of_getElem? h);simp at h2;exact ⟨x.toNat,by omega,by omega⟩
theorem ahead_row {Wa W:World} {Ga b:Nat} {bs:List BlkD} (hah:SL Wa 1 RRow (some ⟨Ga,0,none⟩) bs.length (rows bs)) (hb:b<bs.length) (hW:Below Wa.heap.size Wa W) :
    ∃ A c,W.cell? ⟨Ga,b,none⟩=some (.slice A (qF bs b).length c)∧SL W 1 RInt A c (qF bs b):=by
  (obtain ⟨bg,og,l,hbo,hl,hcs⟩:=(SL.keep (q6 hW) (RRow.keep (q6 hW)) hah).at_ (k:=b) (by rw [rows_len];exact hb));simp only [Option.some.injEq,Addr.mk.injEq,and_true] at hbo;obtain ⟨rfl,rfl⟩:=hbo;have e:=rows_at hl.out;subst e;obtain ⟨A,c,h1,h2⟩:=hcs;rw [Nat.mul_one,Nat.zero_add] at h1;exact ⟨A,c,h1,h2⟩
end Go.Proofs.Ytfoggldjjnabcaa
