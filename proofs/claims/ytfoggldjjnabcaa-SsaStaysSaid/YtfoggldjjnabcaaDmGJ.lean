/- The program's nameWithin: a block's instructions and its end get their versions. -/
import Derived.Test.YtfoggldjjnabcaaSpOJ
import Derived.StillTailTactics
import Derived.Test.YtfoggldjjnabcaaDmTJ
namespace Go.Proofs.Ytfoggldjjnabcaa
open Go.ChangeShapes Go.WideShapes Go.RowKit Go.Deep
set_option linter.unusedVariables false
set_option linter.unusedSimpArgs false
def stA (al:List Int) (od nd:Int):List Int:=if 0≤nd then al.set od.toNat nd else al
def alK (al:List Int) (oi l:List InsD):Nat→List Int
  | 0=>al
  | k+1=>stA (alK al oi l k) (oi.getD k default).dst (l.getD k default).dst
def nmI (al:List Int) (oi l:List InsD) (k:Nat) (x:InsD):InsD:=⟨x.op,x.dst,verL (alK al oi l k) x.args,x.imm,x.fn⟩
def nmK (al:List Int) (oi l:List InsD) (k:Nat):List InsD:=l.mapIdx fun j x=>if j<k then nmI al oi l j x else x
theorem stA_len (al:List Int) (od nd:Int):(stA al od nd).length=al.length:=by unfold stA;split <;> simp
theorem alK_len (al:List Int) (oi l:List InsD):∀ k,(alK al oi l k).length=al.length
  | 0=>rfl
  | k+1=>by unfold alK;rw [stA_len,alK_len al oi l k]
theorem alK_i64 {al:List Int} {oi l:List InsD} (h:∀ z∈al,I64 z) (hl:∀ x∈l,I64 x.dst):∀ k,∀ z∈alK al oi l k,I64 z
  | 0=>h
  | k+1=>by
    intro z hz;unfold alK stA at hz
    split at hz
    · rcases List.mem_or_eq_of_mem_set hz with h1 | h1
      · exact alK_i64 h hl k z h1
      · rw [h1,List.getD_eq_getElem?_getD];cases hx:l[k]? with
        | none=>unfold I64;decide
        | some x=>exact hl x (List.mem_of_getElem? hx)
    · exact alK_i64 h hl k z hz
theorem nmK_zero (al:List Int) (oi l:List InsD):nmK al oi l 0=l:=by
  unfold nmK;apply List.ext_getElem?;intro i;rw [List.getElem?_mapIdx];cases l[i]? <;> simp
theorem nmK_all (al:List Int) (oi l:List InsD) {k:Nat} (h:l.length≤k):nmK al oi l k=l.mapIdx (nmI al oi l):=by
  unfold nmK;apply List.ext_getElem?;intro i;rw [List.getElem?_mapIdx,List.getElem?_mapIdx];cases hi:l[i]? with
  | none=>rfl
  | some x=>have:=(List.getElem?_eq_some_iff.1 hi).1;simp;omega
theorem nmK_at {al:List Int} {oi l:List InsD} {k:Nat} {x:InsD} (h:l[k]?=some x):(nmK al oi l k)[k]?=some x:=by unfold nmK;rw [List.getElem?_mapIdx,h];simp
theorem nmK_set {al:List Int} {oi l:List InsD} {k:Nat} {x:InsD} (h:l[k]?=some x):(nmK al oi l k).set k (nmI al oi l k x)=nmK al oi l (k+1):=by
  unfold nmK;apply List.ext_getElem?;intro i;rw [List.getElem?_set,List.getElem?_mapIdx,List.getElem?_mapIdx]
  by_cases e:k=i
  · subst e;have:=(List.getElem?_eq_some_iff.1 h).1;rw [if_pos rfl,if_pos (by simp;exact this),h];simp
  · rw [if_neg e];cases l[i]? with
    | none=>rfl
    | some y =>
      by_cases h1:i<k
      · simp [h1,Nat.lt_succ_of_lt h1]
      · simp [h1,show ¬ i<k+1 by omega]
theorem extL_self {L:Nat→Nat} {n:Nat} (h:∀ k,n≤k→L k=0):extL L n 0=L:=by
  (funext k);unfold extL
  by_cases e:k<n
  · rw [if_pos e]
  · rw [if_neg e,h k (by omega)]
theorem InsO.put {w:World} {K t g c k:Nat} {lab:Nat→Nat} {l:List InsD} {ys:List (InsD × Value)} {x:InsD} {v va:Value} {la:List Int} (h:InsO w K lab t (.slice (some ⟨g,0,none⟩) ys.length c) l ys) (hx:ys[k]?=some (x,va)) (ht:t≠0) (hv:RdV w lab v la) :
    InsO (w.setCell ⟨g,k * 5+2,none⟩ v) K lab t (.slice (some ⟨g,0,none⟩) ys.length c) (l.set k ⟨x.op,x.dst,la,x.imm,x.fn⟩) (ys.set k (⟨x.op,x.dst,la,x.imm,x.fn⟩,v)):=by
  have hc:=h.row.chgPut (k * 5+2) v;have hr:=h.row.put (k * 5+2) v;refine ⟨?_,by rw [List.map_set,h.are],fun y hy=>?_⟩
  · rw [flat_set inC_len hx (by omega) (x':=(⟨x.op,x.dst,la,x.imm,x.fn⟩,v)) rfl] at hr;rw [List.length_set];exact hr
  · rcases List.mem_or_eq_of_mem_set hy with h1 | h1
    · exact (h.rd y h1).chg0 hc (Ne.symm ht)
    · rw [h1];exact hv.chg0 hc (Ne.symm ht)
theorem verL_i64 {l xs:List Int} (h:∀ z∈l,I64 z):∀ y∈verL l xs,I64 y:=by
  intro y hy;unfold verL at hy;obtain ⟨a,-,rfl⟩:=List.mem_map.1 hy;unfold atV;rw [List.getD_eq_getElem?_getD];cases hx:l[a.toNat]? with
  | none=>unfold I64;decide
  | some z=>exact h z (List.mem_of_getElem? hx)
theorem verL_len (l xs:List Int):(verL l xs).length=xs.length:=by unfold verL;simp
theorem LRw.drew {w:World} {K t sz n:Nat} {lab:Nat→Nat} {ty:TypeId} {v:Value} {xs:List Value} (h:LRw w K lab t ty sz v n xs):LRw w.drew K lab t ty sz v n xs:=⟨h.own,h.lb⟩
theorem InsO.chg0' {w w':World} {K t:Nat} {lab:Nat→Nat} {S:Nat→Prop} {v:Value} {l:List InsD} {ys:List (InsD × Value)} (h:InsO w K lab t v l ys) (hc:Chg w w' lab S) (h0:¬ S 0) (hn:¬ S t):InsO w' K lab t v l ys :=
  ⟨h.row.chg0 hc hn,h.are,fun y hy=>(h.rd y hy).chg0 hc h0⟩
theorem InsO.len {w:World} {K t:Nat} {lab:Nat→Nat} {v:Value} {l:List InsD} {ys:List (InsD × Value)} (h:InsO w K lab t v l ys):ys.length=l.length:=by have:=congrArg List.length h.are;rwa [List.length_map] at this
theorem InsO.at_ {w:World} {K t k:Nat} {lab:Nat→Nat} {v:Value} {l:List InsD} {ys:List (InsD × Value)} {x:InsD} (h:InsO w K lab t v l ys) (hx:l[k]?=some x):∃ va,ys[k]?=some (x,va)∧RdV w lab va x.args:=by
  have h1:=h.are;rw [← h1,List.getElem?_map] at hx;obtain ⟨y,hy,rfl⟩:=Option.map_eq_some_iff.1 hx;exact ⟨y.2,hy,h.rd y (List.mem_of_getElem? hy)⟩
theorem InsO.cells {w:World} {K t k g c n:Nat} {lab:Nat→Nat} {l:List InsD} {ys:List (InsD × Value)} {x:InsD} {va:Value} (h:InsO w K lab t (.slice (some ⟨g,0,none⟩) n c) l ys) (hx:ys[k]?=some (x,va)) (hn:n=ys.length) :
    w.cell? ⟨g,k * 5+1,none⟩=some (.int .i64 x.dst)∧w.cell? ⟨g,k * 5+2,none⟩=some va∧∀ j,w.frozen? ⟨g,j,none⟩=false:=by
  subst hn;have hk:=(List.getElem?_eq_some_iff.1 hx).1;exact ⟨h.row.cell (by rw [flat_at inC_len hx (by omega)];rfl) (by omega),h.row.cell (by rw [flat_at inC_len hx (by omega)];rfl) (by omega),fun j=>h.row.own.frozenAt j⟩
def ToldNw (w:World) (K:Nat) (lab:Nat→Nat) (B o tI tA:Nat) (vi vat:Value) (oi l:List InsD) (al:List Int) (a:Int) (e:Ending) (w':World):Prop :=
  e=.returned (.tuple #[])∧Chg w w' lab (fun k=>k=3∨k=tI∨k=tA)∧(∃ ys,InsO w' K (extL lab w.heap.size 0) tI vi (l.mapIdx (nmI al oi l)) ys)∧LRw w' K (extL lab w.heap.size 0) tA 3 1 vat al.length ((alK al oi l l.length).map (Value.int .i64)) ∧
    ((0≤a∧w'.heap[B]?=(w.setCell ⟨B,o+3,none⟩ (.int .i64 (atV (alK al oi l l.length) a))).heap[B]?)∨(a<0∧w'.heap[B]?=w.heap[B]?))
theorem setCell_alike {w w':World} {B:Nat} (h:w.heap[B]?=w'.heap[B]?) (i:Nat) (v:Value):(w.setCell ⟨B,i,none⟩ v).heap[B]?=(w'.setCell ⟨B,i,none⟩ v).heap[B]?:=by
  unfold World.setCell;simp only [Array.getElem?_modify,h]
set_option maxRecDepth 100000 in
set_option maxHeartbeats 16000000 in
theorem nameWithin_any (wb w:World) (K B o tI tA ca:Nat) (Aat:Option Addr) (lab:Nat→Nat) (oi l:List InsD) (ys:List (InsD × Value)) (al:List Int) (a oa kd:Int) (Av Ap Ai At:Option Addr) (cv np cp ci nt ct:Nat)
    (hcI:w.cell? ⟨B,o+1,none⟩=some (.slice Av l.length cv)) (hca:w.cell? ⟨B,o+3,none⟩=some (.int .i64 a)) (hfz:∀ j,w.frozen? ⟨B,j,none⟩=false) (hlB:lab B=3)
    (hI:InsO w K lab tI (.slice Av l.length cv) l ys) (hoi:SL wb 5 RIns Ai ci oi) (hb:Below wb.heap.size wb w) (hlow:∀ k,k<wb.heap.size→lab k≤1) (hA:LRw w K lab tA 3 1 (.slice Aat al.length ca) al.length (al.map (Value.int .i64)))
    (htI:3<tI) (htA:3<tA∧tA≠tI) (hlen:oi.length=l.length) (hl1:l.length≤1000) (hal:al.length≤1000) (h64:∀ z∈al,I64 z) (hargs:∀ x∈l,x.args.length≤1000∧∀ y∈x.args,0≤y∧y<al.length)
    (hdst:∀ (k:Nat) (x y:InsD),l[k]?=some x→oi[k]?=some y→I64 x.dst∧(0≤x.dst→0≤y.dst∧y.dst<al.length)) (hKw:K≤w.heap.size) (harg:a<al.length) :
    Calls Try.prog 42 #[.pointer (some ⟨B,o,none⟩),.agg #[.slice Ap np cp,.slice Ai oi.length ci,.int .i64 kd,.int .i64 oa,.slice At nt ct],.slice Aat al.length ca] w (ToldNw w K lab B o tI tA (.slice Av l.length cv) (.slice Aat al.length ca) oi l al a):=by
  have HI:=Lib.hid hI;have HOI:=Lib.hid hoi;have HB:=Lib.hid hb;have HLOW:=Lib.hid hlow;have HA:=Lib.hid hA;have HT:=Lib.hid (And.intro htI htA);have H64:=Lib.hid h64;have HAR:=Lib.hid hargs;have HD:=Lib.hid hdst
  have HFZ:=Lib.hid hfz;have HCA:=Lib.hid (And.intro hcI hca);have HLB:=Lib.hid hlB;have HLN:=Lib.hid hlen;have hBl:=block_lt_of_cell hcI;rw [hlen];clear hI hoi hb hlow hA htI htA h64 hargs hdst hfz hcI hca hlB hlen;obtain ⟨L,hL⟩:∃ L,L=extL lab w.heap.size 0:=⟨_,rfl⟩;have HL:=Lib.hid hL
  (go_enter Try.func42,Try.ntmps42);(go_upto_region 1 with fail);obtain ⟨w1,hw1,hs1,hk1,hbel1,hc1,-⟩:=named w #[.slice Ap np cp,.slice Ai l.length ci,.int .i64 kd,.int .i64 oa,.slice At nt ct] 43;rw [← hw1];obtain ⟨N4,hN4⟩:∃ N4,N4=w.heap.size:=⟨_,rfl⟩;(have HN:Hid (w1.cell? ⟨N4,1,none⟩=some (.slice Ai l.length ci)∧N4=w.heap.size∧w1.heap.size=N4+1):=Lib.hid ⟨by rw [hN4];exact hc1 1 _ rfl,hN4,by rw [hs1,hN4]⟩);have hcI:=hk1 _ _ HCA.out.1;have HC1:Hid (Chg w w1 lab (fun k=>k=tI∨k=tA)∧w1.heap[B]?=w.heap[B]?):=Lib.hid ⟨Chg.of_below hbel1,hbel1.block B hBl⟩;have HI1:Hid (InsO w1 K L tI (.slice Av l.length cv) (nmK (al) oi l 0) ys):=Lib.hid (by rw [hL,nmK_zero];exact HI.out.chg (S:=fun _=>False) (Chg.of_below hbel1) (fun e=>e) (fun e=>e))
  (have HA1:Hid (LRw w1 K L tA 3 1 (.slice Aat al.length ca) al.length ((alK al oi l 0).map (Value.int .i64))):=Lib.hid (by rw [hL];exact HA.out.chg (S:=fun _=>False) (Chg.of_below hbel1) (fun e=>e)));rw [← hN4];clear hw1 hs1 hk1 hbel1 hc1 hN4 hL;(go_wp2_with fail);clear hcI
  go_loopw [13] (fun s13 wq=>∃ (k:Nat) (ys:List (InsD × Value)),k≤l.length∧s13=.int .i64 (k:Int)∧InsO wq K L tI (.slice Av l.length cv) (nmK al oi l k) ys∧LRw wq K L tA 3 1 (.slice Aat al.length ca) al.length ((alK al oi l k).map (Value.int .i64))∧Chg w wq lab (fun k=>k=tI∨k=tA)∧wq.heap[B]?=w.heap[B]?∧wq.heap[N4]?=w1.heap[N4]?∧w1.heap.size≤wq.heap.size) (fun s13 _=>l.length - (intOf s13).toNat)
  case atStart=>exact ⟨0,ys,Nat.zero_le _,rfl,HI1.out,HA1.out,HC1.out.1,HC1.out.2,rfl,Nat.le_refl _⟩
  case round =>
    obtain ⟨k,ys,hk,rfl,hI,hA,hC,hB,hN,hz⟩:=hrel;have HI:=Lib.hid hI;have HA:=Lib.hid hA;have HC:=Lib.hid hC;have HBB:=Lib.hid hB;have HNN:=Lib.hid hN;have HZ:=Lib.hid hz;(have HBR:Hid (Below wb.heap.size wb wr):=Lib.hid (HB.out.trans ⟨hC.os,hC.tape,hC.output,hC.size,fun y hy=>hC.block y (by have:=HB.out.size;omega) (by have h1:=HLOW.out y hy;have h2:=HT.out;show ¬ (lab y=tI∨lab y=tA);omega)⟩));have bI:=(World.cell?_of_block (a:=⟨B,o+1,none⟩) hB).trans HCA.out.1
    (have HLZ:Hid (∀ y,w.heap.size≤y→L y=0):=Lib.hid (fun y hy=>by rw [HL.out];exact extL_new hy));have hzw:w.heap.size≤wr.heap.size:=by have:=HN.out;omega
    by_cases hkl:k<l.length
    · (have hk0:(0:Int)≤k:=by omega);(have hk1:(k:Int)<l.length:=by omega);obtain ⟨x,hx⟩:∃ x,l[k]?=some x:=⟨_,List.getElem?_eq_getElem hkl⟩;obtain ⟨va,hy,hrd⟩:=hI.at_ (nmK_at (al:=al) (oi:=oi) hx);(have hyl:ys.length=l.length:=by rw [hI.len];unfold nmK;simp);obtain ⟨gI,cI,hAv⟩:=hI.row.form (by omega);(obtain ⟨hAv1,-,-⟩:Av=some ⟨gI,0,none⟩∧l.length=ys.length∧cv=cI:=by simpa using hAv);subst hAv1;obtain ⟨d1,d2,df⟩:=hI.cells hy hyl.symm
      have df2:=df (k * 5+2);obtain ⟨Aa,ca2,hva,-⟩:=hrd;have hva':=hva;subst hva;(obtain ⟨bo,oo,xo,rfl,hxo,-,⟨p1,-⟩,-,-,-⟩:=HOI.out.at_ (k:=k) (by rw [HLN.out];exact hkl));obtain ⟨hal1,har⟩:=HAR.out x (List.mem_of_getElem? hx);obtain ⟨hd64,hdr⟩:=HD.out k x xo hx hxo.out;have HXX:=Lib.hid (And.intro hx hxo.out)
      have HVE:=Lib.hid (versions_any x.args (alK al oi l k) (.slice Aa x.args.length ca2) (.slice Aat al.length ca) wr (hI.rd _ (List.mem_of_getElem? hy)).plain (qV (by rw [alK_len];exact hA.own) (alK_i64 H64.out (fun z hz=>by
        obtain ⟨j,hj⟩:=List.getElem?_of_mem hz;have hjl:=(List.getElem?_eq_some_iff.1 hj).1;obtain ⟨yo,hyo⟩:∃ yo,oi[j]?=some yo:=⟨_,List.getElem?_eq_getElem (by rw [HLN.out];exact hjl)⟩
        exact (HD.out j z yo hj hyo).1) k)) (fun y hy=>by rw [alK_len];exact har y hy) hal1)
      have HY:=Lib.hid hy;have HYL:=Lib.hid hyl;have HP1:=Lib.hid p1;have HDR:=Lib.hid hdr;have hbsz:=HBR.out.size;clear hI hA hC hB hN hz hx hy hAv hva' df hyl har hdr hxo p1;(go_upto_region 6 with (go_at_call 55;refine HVE.out.mono ?_;rintro e w5 ⟨⟨v5,rfl,ho5⟩,hb5⟩;obtain ⟨A5,c5,rfl⟩:=qL ho5;have e1:=(q6 hb5) _ _ d1;have e2:=(q6 hb5) _ _ d2;have ef:=(World.frozen?_of_block (a:=⟨gI,k * 5+2,none⟩) (hb5.block gI (block_lt_of_cell d2))).trans df2;have HO5:=Lib.hid ho5;have HB5:=Lib.hid hb5;clear ho5 hb5 d1 d2 df2));clear e2 ef HVE;obtain ⟨w6,hw6⟩:∃ w6,w6=w5.setCell ⟨gI,k * 5+2,none⟩ (.slice A5 x.args.length c5):=⟨_,rfl⟩
      have hc5:Chg wr w5 L (fun k=>k=tI):=Chg.of_below HB5.out;have hls:extL L wr.heap.size 0=L:=extL_self (fun y hy=>HLZ.out y (by omega));have hI5:InsO w5 K L tI (.slice (some ⟨gI,0,none⟩) ys.length cv) (nmK al oi l k) ys:=by
        have h:=HI.out.chg (t2:=0) (S:=fun _=>False) (Chg.of_below HB5.out) (fun e=>e) (fun e=>e);rw [hls] at h;rw [HYL.out];exact h
      have hA5:LRw w5 K L tA 3 1 (.slice Aat al.length ca) al.length ((alK al oi l k).map (Value.int .i64)):=by
        have h:=HA.out.chg (t2:=0) (S:=fun _=>False) (Chg.of_below HB5.out) (fun e=>e);rw [hls] at h;exact h
      have hrd5:RdV w5 L (.slice A5 x.args.length c5) (verL (alK al oi l k) x.args):=RdV.of_own (K:=K) ⟨by rw [verL_len];exact z8 HO5.out (by omega),fun g hg=>HLZ.out g (by have:=(HO5.out.lt g hg).1;omega)⟩ (verL_i64 (alK_i64 H64.out (fun z hz=>by
        obtain ⟨j,hj⟩:=List.getElem?_of_mem hz;have hjl:=(List.getElem?_eq_some_iff.1 hj).1;obtain ⟨yo,hyo⟩:∃ yo,oi[j]?=some yo:=⟨_,List.getElem?_eq_getElem (by rw [HLN.out];exact hjl)⟩
        exact (HD.out j z yo hj hyo).1) k))
      (have hc6:Chg w5 w6 L (fun k=>k=tI):=by rw [hw6];exact hI5.row.chgPut (k * 5+2) _);have hI6:InsO w6 K L tI (.slice (some ⟨gI,0,none⟩) l.length cv) (nmK al oi l (k+1)) (ys.set k (nmI al oi l k x,.slice A5 x.args.length c5)):=by
        (have h:=hI5.put HY.out (by have:=HT.out;omega) hrd5);rw [← nmK_set HXX.out.1,← HYL.out,hw6];exact h
      have HI6:=Lib.hid hI6;(have HA6:Hid (LRw w6 K L tA 3 1 (.slice Aat al.length ca) al.length ((alK al oi l k).map (Value.int .i64))):=Lib.hid (hA5.chg0 hc6 (by have:=HT.out;omega)));(have hcr:Chg wr w6 L (fun k=>k=tI):=hc5.then_ (t2:=0) (by rw [hls];exact hc6));(have HC6:Hid (Chg w w6 lab (fun k=>k=tI∨k=tA)):=Lib.hid ((HC.out).then_ (t2:=0) (Chg.mono (by rw [← HL.out];exact hcr) fun q e=>.inl e)));(have HB6:Hid (w6.heap[B]?=w.heap[B]?):=Lib.hid ((hcr.block B (by omega) (by rw [HL.out,qJ hBl,HLB.out];have:=HT.out;omega)).trans HBB.out));(have HN6:Hid (w6.heap[N4]?=w1.heap[N4]?):=Lib.hid ((hcr.block N4 (by have:=HN.out;have:=HZ.out;omega) (by rw [HLZ.out N4 (by have:=HN.out;omega)];have:=HT.out;omega)).trans HNN.out));(have HZ6:Hid (w1.heap.size≤w6.heap.size):=Lib.hid (by have:=hcr.size;have:=HZ.out;omega));(have hBR6:Below wb.heap.size wb w6:=HB.out.trans ⟨HC6.out.os,HC6.out.tape,HC6.out.output,HC6.out.size,fun y hy=>HC6.out.block y (by have:=HB.out.size;omega) (by have h1:=HLOW.out y hy;have h2:=HT.out;show ¬ (lab y=tI∨lab y=tA);omega)⟩);have hys:(ys.set k (nmI al oi l k x,Value.slice A5 x.args.length c5))[k]?=some (nmI al oi l k x,.slice A5 x.args.length c5):=by rw [List.getElem?_set,if_pos rfl,if_pos (by rw [HYL.out];exact hkl)]
      have q1:w6.cell? ⟨gI,k * 5+1,none⟩=some (.int .i64 x.dst):=(hI6.cells hys (by rw [List.length_set,HYL.out])).1;have n1:=(World.cell?_of_block (a:=⟨N4,1,none⟩) HN6.out).trans HN.out.1;have p1:=(q6 hBR6) _ _ HP1.out;rw [← hw6];clear hw6 hc5 hls hI5 hA5 hrd5 hc6 hI6 hcr hBR6 hys e1
      by_cases hd:0≤x.dst
      · (obtain ⟨r,hr⟩:∃ r:Nat,xo.dst=(r:Int):=⟨xo.dst.toNat,by have:=HDR.out hd;omega⟩);have hrl:=HDR.out hd;rw [hr] at hrl p1;(have hr0:(0:Int)≤r:=by omega);(have hr1:r<al.length:=by omega);(have hr2:(r:Int)<al.length:=by omega);(obtain ⟨za,hza⟩:∃ za,(alK al oi l k)[r]?=some za:=⟨_,List.getElem?_eq_getElem (by rw [alK_len];exact hr1)⟩);obtain ⟨Ga,cGa,hAa⟩:=HA6.out.form (by omega);obtain ⟨hAa1,-⟩:Aat=some ⟨Ga,0,none⟩∧ca=cGa:=by simpa using hAa
        subst hAa1;(have a1:w6.cell? ⟨Ga,r,none⟩=some (.int .i64 za):=HA6.out.cell (by rw [List.getElem?_map,hza];rfl) (by omega));have a2:w6.frozen? ⟨Ga,r,none⟩=false:=HA6.out.own.frozenAt r
        have HKS:Hid (alK al oi l (k+1)=(alK al oi l k).set r x.dst):=Lib.hid (by
          show stA _ _ _=_;rw [List.getD_eq_getElem?_getD,List.getD_eq_getElem?_getD,HXX.out.1,HXX.out.2];show stA _ xo.dst x.dst=_
          unfold stA;rw [if_pos hd,hr,Int.toNat_natCast])
        clear hr hza hAa;(go_upto_region 7 with fail);(go_still_tail 12,(by kernel_rfl));change wpList _ _ _ _ _ w6.drew;go_wp2_with fail
        go_roundw
        case rel =>
          have hcs:Chg w6 (w6.setCell ⟨Ga,r,none⟩ (.int .i64 x.dst)).drew L (fun k=>k=tA):=FrX.drew (HA6.out.chgPut r (.int .i64 x.dst));(refine ⟨k+1,_,by omega,by go_num,HI6.out.chg0' hcs (by have:=HT.out;omega) (by have:=HT.out;omega),?_,HC6.out.then_ (t2:=0) (Chg.mono (by rw [← HL.out];exact hcs) fun q e=>.inr e),(hcs.block B (by have:=HC6.out.size;omega) (by rw [HL.out,qJ hBl,HLB.out];have:=HT.out;omega)).trans HB6.out,(hcs.block N4 (by have:=HN.out;have:=HC6.out.size;have:=HZ6.out;omega) (by rw [HLZ.out N4 (by have:=HN.out;omega)];have:=HT.out;omega)).trans HN6.out,by have:=hcs.size;have:=HZ6.out;omega⟩);rw [HKS.out,List.map_set];exact (HA6.out.put r (.int .i64 x.dst)).drew
        case measure=>simp [intOf];omega
      · have HKS:Hid (alK al oi l (k+1)=alK al oi l k):=Lib.hid (by
          show stA _ _ _=_;rw [List.getD_eq_getElem?_getD,List.getD_eq_getElem?_getD,HXX.out.1,HXX.out.2];show stA _ xo.dst x.dst=_
          unfold stA;rw [if_neg hd])
        go_wp2_with fail
        go_roundw
        case rel=>exact ⟨k+1,_,by omega,by go_num,HI6.out,by rw [HKS.out];exact HA6.out,HC6.out,HB6.out,HN6.out,HZ6.out⟩
        case measure=>simp [intOf];omega
    · (have hkk:k=l.length:=by omega);subst hkk;(have HIF:Hid (InsO wr K L tI (.slice Av l.length cv) (l.mapIdx (nmI al oi l)) ys):=Lib.hid (by rw [← nmK_all al oi l (Nat.le_refl _)];exact hI));have ba:=(World.cell?_of_block (a:=⟨B,o+3,none⟩) hB).trans HCA.out.2;have bf:=(World.frozen?_of_block (a:=⟨B,o+3,none⟩) hB).trans (HFZ.out (o+3));(have HLBB:Hid (L B=3):=Lib.hid (by rw [HL.out,qJ hBl];exact HLB.out));clear hI hA hC hB hN hz bI
      by_cases ha:0≤a
      · obtain ⟨r,rfl⟩:∃ r:Nat,a=(r:Int):=⟨a.toNat,by omega⟩;(have hr1:r<al.length:=by omega);(have hr0:(0:Int)≤r:=by omega);(obtain ⟨za,hza⟩:∃ za,(alK al oi l l.length)[r]?=some za:=⟨_,List.getElem?_eq_getElem (by rw [alK_len];exact hr1)⟩);obtain ⟨Ga,cGa,hAa⟩:=HA.out.form (by omega);(obtain ⟨hAa1,-⟩:Aat=some ⟨Ga,0,none⟩∧ca=cGa:=by simpa using hAa);subst hAa1;(have a1:wr.cell? ⟨Ga,r,none⟩=some (.int .i64 za):=HA.out.cell (by rw [List.getElem?_map,hza];rfl) (by omega));have HZA:Hid (atV (alK al oi l l.length) (r:Int)=za):=Lib.hid (by unfold atV;rw [Int.toNat_natCast,List.getD_eq_getElem?_getD,hza];rfl)
        clear hza hAa;(go_wp2_with fail);(go_end0);have hcs:Chg wr (wr.setCell ⟨B,o+3,none⟩ (.int .i64 za)) L (fun k=>k=3):=Chg.set (fun k=>k=3) HLBB.out (o+3) _;(refine ⟨rfl,(Chg.mono HC.out (fun q e=>.inr e)).then_ (t2:=0) (Chg.mono (by rw [← HL.out];exact hcs) fun q e=>.inl e),⟨ys,by rw [← HL.out];exact HIF.out.chg0' hcs (by omega) (by have:=HT.out;omega)⟩,by rw [← HL.out];exact HA.out.chg0 hcs (by have:=HT.out;omega),.inl ⟨hr0,?_⟩⟩);rw [HZA.out];exact setCell_alike HBB.out _ _
      · (go_wp2_with fail);(go_end0);refine ⟨rfl,Chg.mono HC.out (fun q e=>.inr e),⟨ys,by rw [← HL.out];exact HIF.out⟩,by rw [← HL.out];exact HA.out,.inr ⟨by omega,HBB.out⟩⟩
end Go.Proofs.Ytfoggldjjnabcaa

namespace Go.Proofs.Ytfoggldjjnabcaa
set_option linter.unusedVariables false
structure GrvI (par:Nat→Nat) (k L:Nat) (early least:Nat→Nat) (above:Nat→Int):Prop where
  lo:∀ v,v<L→v<k→above v=-1∧least v=v
  hi:∀ v,L≤v→v<k→∃ a:Nat,above v=(a:Int)∧a<v∧AncP par a v∧(∀ y,AncP par y v→a<y→L≤y)∧AncP par (least v) v∧a<least v∧∀ y,AncP par y v→a<y→early (least v)≤early y
def BestP (par:Nat→Nat) (L:Nat) (early:Nat→Nat) (v x:Nat):Prop:=(v<L∧x=v)∨(L≤v∧AncP par x v∧L≤x∧∀ y,AncP par y v→L≤y→early x≤early y)
variable {n k L:Nat} {E:Nat→Nat→Prop} {par early least:Nat→Nat} {above:Nat→Int}
theorem GrvI.start (par:Nat→Nat) (k:Nat) (early:Nat→Nat):GrvI par k k early (fun v=>v) (fun _=>-1) :=
  ⟨fun _ _ _=>⟨rfl,rfl⟩,fun v h1 h2=>by omega⟩
theorem GrvI.least_lt (T:TreeP k E par) (G:GrvI par k L early least above) {v:Nat} (hv:v<k):least v<k:=by
  by_cases h:v<L
  · rw [(G.lo v h hv).2];exact hv
  · obtain ⟨a,_,_,_,_,h5,_⟩:=G.hi v (by omega) hv;have:=T.anc_le h5 hv;omega
theorem GrvI.best (G:GrvI par k L early least above) {v:Nat} (hv:v<k) (hr:above v<(L:Int)):BestP par L early v (least v):=by
  by_cases h:v<L
  · exact .inl ⟨h,(G.lo v h hv).2⟩
  · obtain ⟨a,h1,h2,h3,h4,h5,h6,h7⟩:=G.hi v (by omega) hv;exact .inr ⟨by omega,h5,h4 _ h5 h6,fun y hy hL=>h7 y hy (by omega)⟩
theorem GrvI.hang (T:TreeP k E par) (G:GrvI par k L early least above) {p q:Nat} {r:Int} (hp:L≤p) (hpk:p<k) (hq:above p=(q:Int)) (hqL:L≤q) (hr:above q=r) :
    GrvI par k L early (updF least p (if early (least q)<early (least p) then least q else least p)) (updF above p r):=by
  refine ⟨fun v h1 h2=>?_,fun v h1 h2=>?_⟩
  · rw [q7 _ _ (by omega),q7 _ _ (by omega)];exact G.lo v h1 h2
  · by_cases e:v=p
    · subst e;rw [qB,qB];obtain ⟨a,a1,a2,a3,a4,a5,a6,a7⟩:=G.hi v h1 h2;(obtain rfl:a=q:=by omega);obtain ⟨b,b1,b2,b3,b4,b5,b6,b7⟩:=G.hi a hqL (by omega);refine ⟨b,by omega,by omega,b3.trans a3,fun y hy hby=>?_,?_,?_,fun y hy hby=>?_⟩
      · by_cases hay:a<y
        · exact a4 y hy hay
        · exact b4 y (T.both hy a3 h2 (by omega)) hby
      · split
        · exact b5.trans a3
        · exact a5
      · split <;> omega
      · by_cases hay:a<y
        · have:=a7 y hy hay
          split <;> omega
        · have:=b7 y (T.both hy a3 h2 (by omega)) hby
          split <;> omega
    · rw [q7 _ _ e,q7 _ _ e];exact G.hi v h1 h2
theorem GrvI.congr {early':Nat→Nat} (G:GrvI par k L early least above) (he:∀ v,L≤v→early' v=early v):GrvI par k L early' least above:=by
  refine ⟨G.lo,fun v h1 h2=>?_⟩;obtain ⟨a,a1,a2,a3,a4,a5,a6,a7⟩:=G.hi v h1 h2;refine ⟨a,a1,a2,a3,a4,a5,a6,fun y hy hay=>?_⟩;rw [he _ (a4 _ a5 a6),he _ (a4 y hy hay)];exact a7 y hy hay
theorem GrvI.link (T:TreeP k E par) {P:Nat} (G:GrvI par k (P+1) early least above) (h0:0<P) (hP:P<k):GrvI par k P early least (updF above P (par P:Int)):=by
  refine ⟨fun v h1 h2=>?_,fun v h1 h2=>?_⟩
  · rw [q7 _ _ (by omega)];exact G.lo v (by omega) h2
  · by_cases e:v=P
    · subst e;rw [qB,(G.lo v (by omega) h2).2];have hp:=T.par_lt v h0 hP;have key:∀ y,AncP par y v→par v<y→y=v:=fun y hy hlt=>by
        cases hy with
        | refl=>rfl
        | step _ hy=>have:=T.anc_le hy (by omega);omega
      exact ⟨par v,rfl,hp,.step h0 .refl,fun y hy hlt=>by rw [key y hy hlt];exact Nat.le_refl _,.refl,hp,fun y hy hlt=>by rw [key y hy hlt];exact Nat.le_refl _⟩
    · rw [q7 _ _ e];obtain ⟨a,a1,a2,a3,a4,a5,a6,a7⟩:=G.hi v (by omega) h2;exact ⟨a,a1,a2,a3,fun y hy hay=>by have:=a4 y hy hay;omega,a5,a6,a7⟩
structure PredP (par early:Nat→Nat) (P:Nat) (l:List Nat) (e:Nat):Prop where
  here:∀ u∈l,u≤P→e≤u
  chain:∀ u∈l,∀ x,AncP par x u→P<x→e≤early x
  found:e=P∨(∃ u,u∈l∧u<P∧e=u)∨∃ u x,u∈l∧AncP par x u∧P<x∧e=early x
theorem PredP.start (par early:Nat→Nat) (P:Nat):PredP par early P [] P:=⟨fun u h=>(by cases h),fun u h=>(by cases h),.inl rfl⟩
theorem PredP.step {P e u b:Nat} {l:List Nat} (T:TreeP k E par) (h:PredP par early P l e) (hf:∀ v,v<P→early v=v) (hu:u<k) (hb:BestP par (P+1) (updF early P e) u b) (heP:e≤P) :
    PredP par early P (l++[u]) (min e (updF early P e b)):=by
  (have hmem:∀ {x:Nat},x∈l++[u]→x∈l∨x=u:=fun hx=>by simpa using hx);rcases hb with ⟨h1,rfl⟩ | ⟨h1,h2,h3,h4⟩
  · by_cases hbP:b=P
    · subst hbP;rw [qB,Nat.min_self];refine ⟨fun x hx hxP=>?_,fun x hx y hy hPy=>?_,?_⟩
      · rcases hmem hx with hx | rfl
        · exact h.here x hx hxP
        · exact heP
      · rcases hmem hx with hx | rfl
        · exact h.chain x hx y hy hPy
        · have:=T.anc_le hy hu;omega
      · rcases h.found with h5 | ⟨x,h5,h6⟩ | ⟨x,y,h5,h6⟩
        · exact .inl h5
        · exact .inr (.inl ⟨x,by simp [h5],h6⟩)
        · exact .inr (.inr ⟨x,y,by simp [h5],h6⟩)
    · (have hbl:b<P:=by omega);rw [q7 _ _ hbP,hf b hbl];refine ⟨fun x hx hxP=>?_,fun x hx y hy hPy=>?_,?_⟩
      · rcases hmem hx with hx | rfl
        · have:=h.here x hx hxP;omega
        · omega
      · rcases hmem hx with hx | rfl
        · have:=h.chain x hx y hy hPy;omega
        · have:=T.anc_le hy hu;omega
      · by_cases hle:e≤b
        · rw [Nat.min_eq_left hle];rcases h.found with h5 | ⟨x,h5,h6⟩ | ⟨x,y,h5,h6⟩
          · exact .inl h5
          · exact .inr (.inl ⟨x,by simp [h5],h6⟩)
          · exact .inr (.inr ⟨x,y,by simp [h5],h6⟩)
        · rw [Nat.min_eq_right (by omega)];exact .inr (.inl ⟨b,by simp,hbl,rfl⟩)
  · rw [q7 _ _ (by omega)];have hby:∀ y,AncP par y u→P<y→early b≤early y:=fun y hy hPy=>by
      have:=h4 y hy (by omega)
      rwa [q7 _ _ (by omega),q7 _ _ (by omega)] at this
    refine ⟨fun x hx hxP=>?_,fun x hx y hy hPy=>?_,?_⟩
    · rcases hmem hx with hx | rfl
      · have:=h.here x hx hxP;omega
      · omega
    · rcases hmem hx with hx | rfl
      · have:=h.chain x hx y hy hPy;omega
      · have:=hby y hy hPy;omega
    · by_cases hle:e≤early b
      · rw [Nat.min_eq_left hle];rcases h.found with h5 | ⟨x,h5,h6⟩ | ⟨x,y,h5,h6⟩
        · exact .inl h5
        · exact .inr (.inl ⟨x,by simp [h5],h6⟩)
        · exact .inr (.inr ⟨x,y,by simp [h5],h6⟩)
      · rw [Nat.min_eq_right (by omega)];exact .inr (.inr ⟨u,b,by simp,h2,by omega,rfl⟩)
theorem PredP.done {P e:Nat} {l:List Nat} (T:TreeP k E par) (h:PredP par early P l e) (hl:∀ u,u∈l↔E u P) (S:EarlyP (P+1) k E par early) (h0:0<P) (hP:P<k):e<P∧EarlyP P k E par (updF early P e):=by
  have hp:=T.par_lt P h0 hP;have he:=h.here (par P) ((hl _).2 (T.par_e P h0 hP)) (by omega);refine ⟨by omega,⟨fun w u hw hE hu=>?_,fun w u x hw hE hx hwx=>?_,fun w hw hwk=>?_,h0⟩⟩
  · by_cases e1:w=P
    · subst e1;rw [qB];exact h.here u ((hl u).2 hE) hu
    · rw [q7 _ _ e1];exact S.here w u (by omega) hE hu
  · rw [q7 early e (show x≠P by omega)]
    by_cases e1:w=P
    · subst e1;rw [qB];exact h.chain u ((hl u).2 hE) x hx hwx
    · rw [q7 _ _ e1];exact S.chain w u x (by omega) hE hx hwx
  · by_cases e1:w=P
    · subst e1;rw [qB];rcases h.found with h5 | ⟨x,h5,h6⟩ | ⟨x,y,h5,h6,h7,h8⟩
      · omega
      · exact .inl ⟨x,(hl x).1 h5,h6⟩
      · exact .inr ⟨x,y,(hl x).1 h5,h6,h7,by rw [q7 _ _ (by omega)];exact h8⟩
    · rw [q7 _ _ e1];rcases S.found w (by omega) hwk with h5 | ⟨x,y,h5,h6,h7,h8⟩
      · exact .inl h5
      · exact .inr ⟨x,y,h5,h6,h7,by rw [q7 _ _ (by omega)];exact h8⟩
def HandP (par:Nat→Nat) (L:Nat) (early near:Nat→Nat) (w:Nat):Prop:=∃ x,AncP par x w∧early w<x∧(∀ y,AncP par y w→early w<y→L≤y∧early x≤early y)∧((early x=early w∧near w=early w)∨(early x<early w∧near w=x))
structure NrI (k L:Nat) (E:Nat→Nat→Prop) (par early near:Nat→Nat) (W:Nat→List Nat):Prop where
  fresh:∀ v,v<L→early v=v
  ear:EarlyP L k E par early
  wait:∀ s,∀ w∈W s,L≤w∧w<k∧early w=s∧∀ c,L≤c→par c=s→¬ AncP par c w
  got:∀ w,L≤w→w<k→w∈W (early w)∨HandP par L early near w
  zero:near 0=0
  few:∀ s,(W s).length+L≤k
variable {near:Nat→Nat} {W:Nat→List Nat}
theorem NrI.start (E:Nat→Nat→Prop) (par:Nat→Nat) (k:Nat) (h0:0<k) (hE:∀ u v,E u v→v<k):NrI k k E par (fun v=>v) (fun _=>0) (fun _=>[]) :=
  ⟨fun _ _=>rfl,⟨fun w u h1 h2=>(by have:=hE _ _ h2;omega),fun w u x h1 h2=>(by have:=hE _ _ h2;omega),fun w h1 h2=>(by omega),h0⟩,fun s w h=>(by cases h),fun w h1 h2=>(by omega),rfl,fun s=>(by simp)⟩
theorem anc_child {a v:Nat} (h:AncP par a v):a=v∨∃ c,par c=a∧0<c∧AncP par c v:=by
  induction h with
  | refl=>exact .inl rfl
  | @step v h1 h2 ih =>
    right;rcases ih with h | ⟨c,h3,h4,h5⟩
    · exact ⟨v,h.symm,h1,.refl⟩
    · exact ⟨c,h3,h4,.step h1 h5⟩
theorem wait_below {P w:Nat} (T:TreeP k E par) (S:EarlyP P k E par early) (h0:0<P) (hP:P<k) (hw:P≤w) (hwk:w<k) (he:early w=par P) (hc:∀ c,P+1≤c→par c=par P→¬ AncP par c w):AncP par P w:=by
  have hlt:=S.lt T hw hwk;have ha:=S.anc T hw hwk;rw [he] at ha hlt;rcases anc_child ha with h | ⟨c,h1,h2,h3⟩
  · omega
  · have hcw:=T.anc_le h3 hwk;have hcl:=T.par_lt c h2 (by omega);have hPl:=T.par_lt P h0 hP
    by_cases h4:P<c
    · exact absurd h3 (hc c h4 h1)
    · have h5:AncP par c P:=T.mid c P w h3 hwk (by omega) hw;cases h5 with
      | refl=>exact h3
      | step _ h6=>have:=T.anc_le h6 (by omega);omega
theorem hand_of {P w x:Nat} (T:TreeP k E par) (S:EarlyP P k E par early) (h0:0<P) (hP:P<k) (hw:P≤w) (hwk:w<k) (he:early w=par P) (hc:∀ c,P+1≤c→par c=par P→¬ AncP par c w) (hb:BestP par P early w x) (near:Nat→Nat) (hn:near w=if early x<par P then x else par P):HandP par P early near w:=by
  have hbw:=wait_below T S h0 hP hw hwk he hc;have hPl:=T.par_lt P h0 hP;rcases hb with ⟨h1,_⟩ | ⟨_,h2,h3,h4⟩
  · omega
  · have hx:=h4 w .refl hw;have hyP:∀ y,AncP par y w→early w<y→P≤y:=fun y hy hly=>by
      apply Classical.byContradiction;intro h5;have h6:=T.both hy hbw hwk (by omega);cases h6 with
      | refl=>omega
      | step _ h7=>have:=T.anc_le h7 (by omega);omega
    refine ⟨x,h2,by omega,fun y hy hly=>⟨hyP y hy hly,h4 y hy (hyP y hy hly)⟩,?_⟩;rw [he] at hx ⊢
    by_cases h5:early x<par P
    · rw [if_pos h5] at hn;exact .inr ⟨h5,hn⟩
    · rw [if_neg h5] at hn;exact .inl ⟨by omega,hn⟩
theorem NrI.waits {P e:Nat} (T:TreeP k E par) (N:NrI k (P+1) E par early near W) (hP:P<k) :
    ∀ s,∀ w∈updF W e (W e++[P]) s,P≤w∧w<k∧updF early P e w=s∧∀ c,P+1≤c→par c=s→¬ AncP par c w:=by
  intro s w hw;have old:∀ s,w∈W s→P≤w∧w<k∧updF early P e w=s∧∀ c,P+1≤c→par c=s→¬ AncP par c w:=fun s hw=>by
    obtain ⟨h1,h2,h3,h4⟩:=N.wait s w hw;exact ⟨by omega,h2,by rw [q7 _ _ (by omega)];exact h3,h4⟩
  by_cases e1:s=e
  · subst e1;rw [qB] at hw;rcases List.mem_append.1 hw with hw | hw
    · exact old s hw
    · rw [List.mem_singleton.1 hw];exact ⟨Nat.le_refl _,hP,qB _ _ _,fun c hc _ h=>by have:=T.anc_le h hP;omega⟩
  · rw [q7 _ _ e1] at hw;exact old s hw
theorem NrI.next {P e:Nat} {near':Nat→Nat} (T:TreeP k E par) (N:NrI k (P+1) E par early near W) (h0:0<P) (hP:P<k) (S:EarlyP P k E par (updF early P e))
    (hh:∀ w∈updF W e (W e++[P]) (par P),HandP par P (updF early P e) near' w) (hk:∀ w,w ∉ updF W e (W e++[P]) (par P)→near' w=near w) :
    NrI k P E par (updF early P e) near' (updF (updF W e (W e++[P])) (par P) []):=by
  have hwt:=N.waits (e:=e) T hP;have hPl:=T.par_lt P h0 hP;have hin:∀ w,P≤w→w<k→w∈updF W e (W e++[P]) (updF early P e w)∨HandP par (P+1) early near w:=fun w hw hwk=>by
    by_cases e3:w=P
    · subst e3;left;rw [qB,qB];simp
    · rw [q7 _ _ e3];rcases N.got w (by omega) hwk with h1 | h1
      · left
        by_cases e4:early w=e
        · rw [e4,qB];rw [e4] at h1;simp [h1]
        · rw [q7 _ _ e4];exact h1
      · exact .inr h1
  refine ⟨fun v hv=>by rw [q7 _ _ (by omega)];exact N.fresh v (by omega),S,fun s w hw=>?_,fun w hw hwk=>?_,?_,fun s=>?_⟩
  · by_cases e1:s=par P
    · subst e1;rw [qB] at hw;cases hw
    · rw [q7 _ _ e1] at hw;obtain ⟨h1,h2,h3,h4⟩:=hwt s w hw;refine ⟨h1,h2,h3,fun c hc hp=>?_⟩
      by_cases e2:c=P
      · subst e2;exact absurd hp.symm e1
      · exact h4 c (by omega) hp
  · by_cases e2:w∈updF W e (W e++[P]) (par P)
    · exact .inr (hh w e2)
    · rcases hin w hw hwk with h1 | ⟨x,h1,h2,h3,h4⟩
      · left
        by_cases e4:updF early P e w=par P
        · rw [e4] at h1;exact absurd h1 e2
        · rw [q7 _ _ e4];exact h1
      · right;(have hwP:w≠P:=fun e3=>by have:=(h3 w .refl (by have:=T.anc_le h1 hwk;omega)).1;omega);have hxP:=(h3 x h1 h2).1;refine ⟨x,h1,by rw [q7 _ _ hwP];exact h2,fun y hy hly=>?_,?_⟩
        · rw [q7 _ _ hwP] at hly;obtain ⟨h5,h6⟩:=h3 y hy hly;rw [q7 _ _ (by omega),q7 _ _ (by omega)];exact ⟨by omega,h6⟩
        · rw [q7 _ _ hwP,q7 _ _ (by omega),hk w e2];exact h4
  · rw [hk 0 (fun h=>by have:=(hwt _ _ h).1;omega)];exact N.zero
  · have h1:=N.few s
    by_cases e1:s=par P
    · subst e1;rw [qB];simp;omega
    · rw [q7 _ _ e1]
      by_cases e2:s=e
      · subst e2;rw [qB];simp;omega
      · rw [q7 _ _ e2];omega
structure NdI (k:Nat) (par early near0 near:Nat→Nat) (j:Nat):Prop where
  done:∀ w,0<w→w<j→w<k→∃ x,AncP par x w∧early w<x∧(∀ y,AncP par y w→early w<y→early x≤early y)∧((early x=early w∧near w=early w)∨(early x<early w∧x<w∧near w=near x))
  left:∀ w,j≤w→near w=near0 w
  zero:near 0=0
theorem NrI.hand (T:TreeP k E par) (N:NrI k 1 E par early near W):∀ w,0<w→w<k→HandP par 1 early near w:=fun w h0 hw=>by
  rcases N.got w h0 hw with h | h
  · exfalso;obtain ⟨h1,h2,h3,h4⟩:=N.wait _ w h;have ha:=N.ear.anc T h0 hw;have hl:=N.ear.lt T h0 hw;rcases anc_child ha with h5 | ⟨c,h5,h6,h7⟩
    · omega
    · exact h4 c h6 h5 h7
  · exact h
theorem NrI.pick (T:TreeP k E par) (N:NrI k 1 E par early near W) {w:Nat} (h0:0<w) (hw:w<k):near w<w:=by
  obtain ⟨x,h1,h2,h3,⟨h4,h5⟩ | ⟨h4,h5⟩⟩:=N.hand T w h0 hw
  · have:=N.ear.lt T h0 hw;omega
  · have:=T.anc_le h1 hw;(have:x≠w:=fun e=>by subst e;omega);omega
theorem NdI.start (N:NrI k 1 E par early near W):NdI k par early near near 0:=⟨fun w h0 h1=>by omega,fun _ _=>rfl,N.zero⟩
theorem NdI.step (T:TreeP k E par) {near0:Nat→Nat} (N:NrI k 1 E par early near0 W) {j:Nat} (h:NdI k par early near0 near j) (hj:j<k) :
    NdI k par early near0 (if near j=early j then near else updF near j (near (near j))) (j+1):=by
  have hj0:=h.left j (Nat.le_refl _);rcases Nat.eq_zero_or_pos j with h0 | h0
  · subst h0;rw [if_pos (by rw [h.zero,N.fresh 0 (by omega)])];exact ⟨fun w h1 h2=>by omega,fun w hw=>h.left w (by omega),h.zero⟩
  · have hpick:=N.pick T h0 hj;obtain ⟨x,h1,h2,h3,h4⟩:=N.hand T j h0 hj;have hlt:=N.ear.lt T h0 hj;rcases h4 with ⟨h4,h5⟩ | ⟨h4,h5⟩
    · rw [if_pos (by omega)];refine ⟨fun w hw hwj hwk=>?_,fun w hw=>h.left w (by omega),h.zero⟩
      by_cases e:w=j
      · subst e;exact ⟨x,h1,h2,fun y hy hly=>(h3 y hy hly).2,.inl ⟨h4,by omega⟩⟩
      · exact h.done w hw (by omega) hwk
    · (have hnx:near j=x:=by omega);rw [if_neg (by omega),hnx];(have hxj:x<j:=by omega);refine ⟨fun w hw hwj hwk=>?_,fun w hw=>by rw [q7 _ _ (by omega)];exact h.left w (by omega),by rw [q7 _ _ (by omega)];exact h.zero⟩
      by_cases e:w=j
      · subst e;exact ⟨x,h1,h2,fun y hy hly=>(h3 y hy hly).2,.inr ⟨h4,hxj,by rw [qB,q7 _ _ (by omega)]⟩⟩
      · obtain ⟨z,z1,z2,z3,z4⟩:=h.done w hw (by omega) hwk;refine ⟨z,z1,z2,z3,?_⟩;rw [q7 _ _ e];rcases z4 with z4 | ⟨z4,z5,z6⟩
        · exact .inl z4
        · exact .inr ⟨z4,z5,by rw [q7 _ _ (by omega)];exact z6⟩
theorem NdI.all {near0:Nat→Nat} (h:NdI k par early near0 near k):NearP k par early near:=fun w h0 hw=>h.done w h0 hw hw
end Go.Proofs.Ytfoggldjjnabcaa
