/- Mathematics of the one-assignment form: new registers, versions, and what is built. -/
import Derived.Test.YtfoggldjjnabcaaSsMJ
import Derived.Test.YtfoggldjjnabcaaSpecJ
import Derived.Deep.QuietTactic
import Derived.BigQuiet
import Derived.Test.YtfoggldjjnabcaaGrNmJ
import Derived.Deep.OwnRows
import Derived.Deep.AppendLies
namespace Go.Proofs.Ytfoggldjjnabcaa
open Go.RowKit
set_option linter.unusedVariables false
structure SsP where
  f:FunD
  W:Nat→Nat→Bool
  C:Nat→Nat→Bool
  nr:Nat→Nat
def insB (f:FunD) (b:Nat):List InsD:=(blkAt f b).ins
def phL (P:SsP) (b:Nat):List Nat:=(List.range P.f.regs.length).filter fun r=>P.W b r && P.C b r
def zrL (P:SsP):List Nat:=(List.range P.f.regs.length).filter fun r=>decide (P.f.params≤(r:Int)) && P.W 0 r
def dsL (l:List InsD):List Nat:=l.filterMap fun x=>if 0≤x.dst then some x.dst.toNat else none
def oldB (P:SsP) (b:Nat):List Nat:=phL P b++dsL (insB P.f b)
def oldL (P:SsP):List Nat:=(List.range P.f.params.toNat++zrL P)++(List.range P.f.blocks.length).flatMap (oldB P)
def baseN (P:SsP) (b:Nat):Nat:=P.f.params.toNat+(zrL P).length+((List.range b).flatMap (oldB P)).length
def zrN (P:SsP) (r:Nat):Nat:=P.f.params.toNat+(zrL P).idxOf r
def phN (P:SsP) (b r:Nat):Nat:=baseN P b+(phL P b).idxOf r
def dsN (P:SsP) (b i:Nat):Nat:=baseN P b+(phL P b).length+(dsL ((insB P.f b).take i)).length
def lastD (ins:List InsD) (r:Nat):Nat→Option Nat
  | 0=>none
  | k+1=>if (ins.getD k default).dst=(r:Int) then some k else lastD ins r k
inductive Ver (P:SsP) (r:Nat):Nat→Nat→Nat→Prop
  | ins {b n i:Nat}:lastD (insB P.f b) r n=some i→Ver P r b n (dsN P b i)
  | phi {b n:Nat}:lastD (insB P.f b) r n=none→r∈phL P b→Ver P r b n (phN P b r)
  | par {n:Nat}:lastD (insB P.f 0) r n=none→r ∉ phL P 0→(r:Int)<P.f.params→Ver P r 0 n r
  | zero {n:Nat}:lastD (insB P.f 0) r n=none→r ∉ phL P 0→¬ (r:Int)<P.f.params→Ver P r 0 n (zrN P r)
  | up {b n v:Nat}:lastD (insB P.f b) r n=none→r ∉ phL P b→b≠0→Ver P r (P.nr b) (insB P.f (P.nr b)).length v→Ver P r b n v
theorem Ver.one {P:SsP} {r b n v:Nat} (h:Ver P r b n v):∀ {u},Ver P r b n u→u=v:=by
  induction h with
  | ins h1 =>
    intro u k;cases k with
    | ins k1=>rw [h1] at k1;cases k1;rfl
    | phi k1 k2=>rw [h1] at k1;cases k1
    | par k1 k2 k3=>rw [h1] at k1;cases k1
    | zero k1 k2 k3=>rw [h1] at k1;cases k1
    | up k1 k2 k3 k4=>rw [h1] at k1;cases k1
  | phi h1 h2 =>
    intro u k;cases k with
    | ins k1=>rw [h1] at k1;cases k1
    | phi k1 k2=>rfl
    | par k1 k2 k3=>exact absurd h2 k2
    | zero k1 k2 k3=>exact absurd h2 k2
    | up k1 k2 k3 k4=>exact absurd h2 k2
  | par h1 h2 h3 =>
    intro u k;cases k with
    | ins k1=>rw [h1] at k1;cases k1
    | phi k1 k2=>exact absurd k2 h2
    | par k1 k2 k3=>rfl
    | zero k1 k2 k3=>exact absurd h3 k3
    | up k1 k2 k3 k4=>exact absurd rfl k3
  | zero h1 h2 h3 =>
    intro u k;cases k with
    | ins k1=>rw [h1] at k1;cases k1
    | phi k1 k2=>exact absurd k2 h2
    | par k1 k2 k3=>exact absurd k3 h3
    | zero k1 k2 k3=>rfl
    | up k1 k2 k3 k4=>exact absurd rfl k3
  | up h1 h2 h3 h4 ih =>
    intro u k;cases k with
    | ins k1=>rw [h1] at k1;cases k1
    | phi k1 k2=>exact absurd k2 h2
    | par k1 k2 k3=>exact absurd rfl h3
    | zero k1 k2 k3=>exact absurd rfl h3
    | up k1 k2 k3 k4=>exact ih k4
open Classical in
noncomputable def vr (P:SsP) (r b n:Nat):Nat:=if h:∃ v,Ver P r b n v then h.choose else 0
theorem Ver.eq {P:SsP} {r b n v:Nat} (h:Ver P r b n v):vr P r b n=v:=by
  unfold vr;have hh:∃ v,Ver P r b n v:=⟨v,h⟩;rw [dif_pos hh];exact h.one hh.choose_spec
theorem vr_up {P:SsP} {r b n:Nat} (h1:lastD (insB P.f b) r n=none) (h2:r ∉ phL P b) (h3:b≠0):vr P r b n=vr P r (P.nr b) (insB P.f (P.nr b)).length:=by
  by_cases h:∃ v,Ver P r (P.nr b) (insB P.f (P.nr b)).length v
  · obtain ⟨v,hv⟩:=h;rw [hv.eq,(Ver.up h1 h2 h3 hv).eq]
  · have h':¬ ∃ v,Ver P r b n v:=fun ⟨v,hv⟩=>by
      cases hv with
      | ins k1=>rw [h1] at k1;cases k1
      | phi k1 k2=>exact h2 k2
      | par k1 k2 k3=>exact h3 rfl
      | zero k1 k2 k3=>exact h3 rfl
      | up k1 k2 k3 k4=>exact h ⟨v,k4⟩
    unfold vr;rw [dif_neg h,dif_neg h']
theorem lastD_some {ins:List InsD} {r:Nat}:∀ {n i:Nat},lastD ins r n=some i→i<n∧(ins.getD i default).dst=(r:Int)
  | 0,i,h=>by simp [lastD] at h
  | n+1,i,h=>by
    unfold lastD at h
    split at h
    · rename_i e;cases h;exact ⟨by omega,e⟩
    · obtain ⟨a,b⟩:=lastD_some h;exact ⟨by omega,b⟩
theorem lastD_none {ins:List InsD} {r:Nat}:∀ {n:Nat},lastD ins r n=none→∀ i,i<n→(ins.getD i default).dst≠(r:Int)
  | 0,h,i,hi=>by omega
  | n+1,h,i,hi=>by
    unfold lastD at h
    split at h
    · cases h
    · rename_i e
      by_cases q:i=n
      · rw [q];exact e
      · exact lastD_none h i (by omega)
theorem lastD_of {ins:List InsD} {r:Nat}:∀ {n:Nat},(∀ i,i<n→(ins.getD i default).dst≠(r:Int))→lastD ins r n=none
  | 0,h=>rfl
  | n+1,h=>by
    unfold lastD;rw [if_neg (h n (by omega))];exact lastD_of fun i hi=>h i (by omega)
theorem mkI_last {ins:List InsD} {r n:Nat} (hn:n≤ins.length):mkI ins n r=false↔lastD ins r n=none:=by
  unfold mkI;constructor
  · intro h;rw [List.any_eq_false] at h;refine lastD_of fun i hi e=>?_;have hx:ins[i]?=some ins[i]:=List.getElem?_eq_getElem (by omega);(have hm:ins[i]∈ins.take n:=List.mem_of_getElem? (i:=i) (by rw [List.getElem?_take_of_lt hi];exact hx));have:=h _ hm;rw [List.getD_eq_getElem?_getD,hx] at e;exact this (by simpa using e)
  · intro h;rw [List.any_eq_false];intro x hx hd;obtain ⟨i,hi⟩:=List.getElem?_of_mem hx;rw [List.getElem?_take] at hi
    split at hi
    · rename_i hl;have:=lastD_none h i hl;rw [List.getD_eq_getElem?_getD,hi] at this;exact this (by simpa using hd)
    · cases hi
theorem flat_get {α:Type} {g:Nat→List α} {x:α} {b j:Nat} (hx:(g b)[j]?=some x):∀ {n:Nat},b<n→((List.range n).flatMap g)[((List.range b).flatMap g).length+j]?=some x
  | 0,h=>by omega
  | n+1,h=>by
    rw [List.range_succ,List.flatMap_append]
    by_cases e:b=n
    · rw [e] at hx ⊢;rw [List.getElem?_append_right (by omega)];simpa using hx
    · have ih:=flat_get hx (n:=n) (by omega);have hl:=(List.getElem?_eq_some_iff.1 ih).1;rw [List.getElem?_append_left hl];exact ih
theorem old_at {P:SsP} {b j r:Nat} (hb:b<P.f.blocks.length) (hx:(oldB P b)[j]?=some r):(oldL P)[baseN P b+j]?=some r:=by
  unfold oldL baseN;(rw [List.getElem?_append_right (by simp;omega)]);(rw [show P.f.params.toNat+(zrL P).length+((List.range b).flatMap (oldB P)).length+j - (List.range P.f.params.toNat++zrL P).length=((List.range b).flatMap (oldB P)).length+j by simp;omega]);exact flat_get hx hb
theorem idx_in {l:List Nat} {x:Nat} (h:x∈l):l[l.idxOf x]?=some x:=by
  rw [List.getElem?_eq_getElem (List.idxOf_lt_length_iff.2 h),List.getElem_idxOf]
theorem old_ph {P:SsP} {b r:Nat} (hb:b<P.f.blocks.length) (hr:r∈phL P b):(oldL P)[phN P b r]?=some r:=by
  refine old_at hb ?_;unfold oldB;rw [List.getElem?_append_left (List.idxOf_lt_length_iff.2 hr)];exact idx_in hr
theorem dsL_at {l:List InsD} {i:Nat} {x:InsD} (hx:l[i]?=some x) (hd:0≤x.dst):(dsL l)[(dsL (l.take i)).length]?=some x.dst.toNat:=by
  obtain ⟨hi,e⟩:=List.getElem?_eq_some_iff.1 hx;(have hs:l=l.take i++x::l.drop (i+1):=by rw [← e,List.getElem_cons_drop,List.take_append_drop]);have:dsL l=dsL (l.take i)++(x.dst.toNat::dsL (l.drop (i+1))):=by
    conv=>lhs;rw [hs]
    unfold dsL;rw [List.filterMap_append,List.filterMap_cons];simp only [if_pos hd]
  rw [this,List.getElem?_append_right (Nat.le_refl _),Nat.sub_self]
  rfl
theorem old_ds {P:SsP} {b i r:Nat} (hb:b<P.f.blocks.length) {x:InsD} (hx:(insB P.f b)[i]?=some x) (hd:x.dst=(r:Int)):(oldL P)[dsN P b i]?=some r:=by
  have h:=old_at (P:=P) (b:=b) (j:=(phL P b).length+(dsL ((insB P.f b).take i)).length) (r:=r) hb (by
    unfold oldB;rw [List.getElem?_append_right (by omega)];have:=dsL_at hx (by omega);rw [hd] at this
    simpa using this)
  unfold dsN;rw [Nat.add_assoc];exact h
theorem old_zr {P:SsP} {r:Nat} (hr:r∈zrL P):(oldL P)[zrN P r]?=some r:=by
  unfold oldL zrN;have hl:=List.idxOf_lt_length_iff.2 hr;(rw [List.getElem?_append_left (by simp;omega),List.getElem?_append_right (by simp)]);simpa using idx_in hr
theorem old_par {P:SsP} {r:Nat} (hr:(r:Int)<P.f.params):(oldL P)[r]?=some r:=by
  unfold oldL;(rw [List.getElem?_append_left (by simp;omega),List.getElem?_append_left (by simp;omega)]);rw [List.getElem?_range (by omega)]
def EdP (f:FunD) (p b:Nat):Prop:=b<f.blocks.length∧(p:Int)∈qF f.blocks b
def mkP (f:FunD) (r b:Nat):Prop:=b=0∨mkB f.blocks b r=true
structure SsOk (m:List FunD) (P:SsP) (D:Nat→Nat→Prop) (ord:Nat→Nat):Prop where
  fn:FunOk m P.f
  plain:∀ b∈P.f.blocks,b.phis=[]
  dom:DomA P.f.blocks.length (EdP P.f) D P.nr ord
  cl:∀ r b,b<P.f.blocks.length→(P.C b r=true↔ClA (EdP P.f) D (mkP P.f r) b)
  want:∀ b r,b<P.f.blocks.length→r<P.f.regs.length→(P.W b r=true↔Want P.f.blocks false b r)
theorem SsOk.no_ph {m:List FunD} {P:SsP} {D:Nat→Nat→Prop} {ord:Nat→Nat} (h:SsOk m P D ord) (b r:Nat):phB P.f.blocks b r=false:=by
  unfold phB;cases hb:P.f.blocks[b]? with
  | none=>rfl
  | some k=>simp only [];rw [h.plain k (List.mem_of_getElem? hb)];rfl
theorem qb {f:FunD} {b:Nat} {k:BlkD} (hb:f.blocks[b]?=some k):insB f b=k.ins:=by unfold insB;rw [show blkAt f b=k from qv hb]
theorem want_back {f:FunD} {r b:Nat} {k:BlkD} (hb:f.blocks[b]?=some k):∀ {i:Nat},i≤k.ins.length→wantAt f r b i→lastD k.ins r i=none→wantAt f r b 0
  | 0,_,h,_=>h
  | i+1,hi,h,hl=>by
    have hx:k.ins[i]?=some k.ins[i]:=List.getElem?_eq_getElem (by omega);have hd:=lastD_none hl i (by omega);have hl':lastD k.ins r i=none:=lastD_of fun j hj=>lastD_none hl j (by omega);refine want_back hb (by omega) ((wantAt_step hb hx).mpr (.inr ⟨?_,h⟩)) hl';rw [List.getD_eq_getElem?_getD,hx] at hd;exact hd
theorem SsOk.want_of {m:List FunD} {P:SsP} {D:Nat→Nat→Prop} {ord:Nat→Nat} (h:SsOk m P D ord) {r b i:Nat} {k:BlkD} (hb:P.f.blocks[b]?=some k) (hi:i≤k.ins.length) (hw:wantAt P.f r b i) (hl:lastD k.ins r i=none):Want P.f.blocks false b r :=
  want_first hb (h.no_ph b r) (want_back hb hi hw hl)
theorem mem_phL {P:SsP} {b r:Nat}:r∈phL P b↔r<P.f.regs.length∧P.W b r=true∧P.C b r=true:=by
  unfold phL;rw [List.mem_filter,List.mem_range,Bool.and_eq_true]
theorem mem_zrL {P:SsP} {r:Nat}:r∈zrL P↔r<P.f.regs.length∧P.f.params≤(r:Int)∧P.W 0 r=true:=by
  unfold zrL;rw [List.mem_filter,List.mem_range,Bool.and_eq_true,decide_eq_true_iff]
theorem SsOk.near_want {m:List FunD} {P:SsP} {D:Nat→Nat→Prop} {ord:Nat→Nat} (h:SsOk m P D ord) {r b:Nat} (hb:b<P.f.blocks.length) (h0:b≠0) (hw:Want P.f.blocks false b r) (hc:¬ P.C b r=true):Want P.f.blocks true (P.nr b) r:=by
  refine h.dom.wanted (mk:=mkP P.f r) (wb:=fun b=>Want P.f.blocks false b r) (we:=fun b=>Want P.f.blocks true b r) ?_ ?_ (ord b) b (Nat.le_refl _) hb h0 hw (fun g=>hc ((h.cl r b hb).mpr g))
  · intro p c he hw;exact .back he.1 he.2 hw
  · intro c hc hw hn
    exact .thru hc hw (by
      cases e:mkB P.f.blocks c r with
      | false=>rfl
      | true=>exact absurd (.inr e) hn) (h.no_ph c r)
theorem SsOk.ver {m:List FunD} {P:SsP} {D:Nat→Nat→Prop} {ord:Nat→Nat} (h:SsOk m P D ord) {r:Nat} (hr:r<P.f.regs.length):∀ (t:Nat) {b i:Nat} {k:BlkD},ord b≤t→P.f.blocks[b]?=some k→i≤k.ins.length→wantAt P.f r b i→∃ v,Ver P r b i v∧(oldL P)[v]?=some r:=by
  intro t
  induction t with
  | zero =>
    intro b i k ht hb hi hw;have hbl:=(List.getElem?_eq_some_iff.1 hb).1;have ei:=qb hb;cases hl:lastD (insB P.f b) r i with
    | some j =>
      obtain ⟨q1,q2⟩:=lastD_some hl;rw [ei] at q2;have hx:k.ins[j]?=some k.ins[j]:=List.getElem?_eq_getElem (by omega);rw [List.getD_eq_getElem?_getD,hx] at q2;exact ⟨_,.ins hl,old_ds hbl (by rw [ei];exact hx) q2⟩
    | none =>
      by_cases hp:r∈phL P b
      · exact ⟨_,.phi hl hp,old_ph hbl hp⟩
      · by_cases h0:b=0
        · subst h0
          by_cases hpar:(r:Int)<P.f.params
          · exact ⟨_,.par hl hp hpar,old_par hpar⟩
          · refine ⟨_,.zero hl hp hpar,old_zr (mem_zrL.mpr ⟨hr,by omega,(h.want 0 r hbl hr).mpr ?_⟩)⟩;exact h.want_of hb hi hw (by rw [← ei];exact hl)
        · have:=h.dom.ord_ b hbl h0;omega
  | succ t ih =>
    intro b i k ht hb hi hw;have hbl:=(List.getElem?_eq_some_iff.1 hb).1;have ei:=qb hb;cases hl:lastD (insB P.f b) r i with
    | some j =>
      obtain ⟨q1,q2⟩:=lastD_some hl;rw [ei] at q2;have hx:k.ins[j]?=some k.ins[j]:=List.getElem?_eq_getElem (by omega);rw [List.getD_eq_getElem?_getD,hx] at q2;exact ⟨_,.ins hl,old_ds hbl (by rw [ei];exact hx) q2⟩
    | none =>
      have hwb:=h.want_of hb hi hw (by rw [← ei];exact hl)
      by_cases hp:r∈phL P b
      · exact ⟨_,.phi hl hp,old_ph hbl hp⟩
      · by_cases h0:b=0
        · subst h0
          by_cases hpar:(r:Int)<P.f.params
          · exact ⟨_,.par hl hp hpar,old_par hpar⟩
          · exact ⟨_,.zero hl hp hpar,old_zr (mem_zrL.mpr ⟨hr,by omega,(h.want 0 r hbl hr).mpr hwb⟩)⟩
        · have hc:¬ P.C b r=true:=fun g=>hp (mem_phL.mpr ⟨hr,(h.want b r hbl hr).mpr hwb,g⟩);have hwn:=h.near_want hbl h0 hwb hc;have ho:=h.dom.ord_ b hbl h0;have hnl:=(h.dom.dlt _ _ (h.dom.near_ b hbl h0).1).1;have hnb:P.f.blocks[P.nr b]?=some P.f.blocks[P.nr b]:=List.getElem?_eq_getElem hnl;obtain ⟨v,hv,hv2⟩:=ih (i:=P.f.blocks[P.nr b].ins.length) (by omega) hnb (Nat.le_refl _) ((wantAt_end hnb).mpr (.inr hwn));exact ⟨v,.up hl hp h0 (by rw [qb hnb];exact hv),hv2⟩
theorem SsOk.old {m:List FunD} {P:SsP} {D:Nat→Nat→Prop} {ord:Nat→Nat} (h:SsOk m P D ord) {r b i:Nat} {k:BlkD} (hr:r<P.f.regs.length) (hb:P.f.blocks[b]?=some k) (hi:i≤k.ins.length) (hw:wantAt P.f r b i):(oldL P)[vr P r b i]?=some r:=by
  obtain ⟨v,h1,h2⟩:=h.ver hr (ord b) (Nat.le_refl _) hb hi hw;rw [h1.eq];exact h2
theorem SsOk.same {m:List FunD} {P:SsP} {D:Nat→Nat→Prop} {ord:Nat→Nat} (h:SsOk m P D ord) {r p b:Nat} (hr:r<P.f.regs.length) (he:EdP P.f p b) (hw:Want P.f.blocks false b r) (hp:r ∉ phL P b):vr P r b 0=vr P r p (insB P.f p).length:=by
  obtain ⟨hpl,hbl,h0⟩:=h.dom.edge p b he;have hc:¬ P.C b r=true:=fun g=>hp (mem_phL.mpr ⟨hr,(h.want b r hbl hr).mpr hw,g⟩);rw [vr_up rfl hp h0];refine (h.dom.same_pred (mk:=mkP P.f r) (ver:=fun e=>vr P r e (insB P.f e).length) ?_ (fun g=>hc ((h.cl r b hbl).mpr g)) he).symm;intro e hel e0 hm hcl;have heb:P.f.blocks[e]?=some P.f.blocks[e]:=List.getElem?_eq_getElem hel;have ei:=qb heb;show vr P r e (insB P.f e).length=vr P r (P.nr e) (insB P.f (P.nr e)).length;refine vr_up ?_ (fun g=>hcl ((h.cl r e hel).mp (mem_phL.mp g).2.2)) e0
  rw [ei];refine (mkI_last (Nat.le_refl _)).mp ?_;rw [← mkB_at heb];cases q:mkB P.f.blocks e r with
  | false=>rfl
  | true=>exact absurd (.inr q) hm
end Go.Proofs.Ytfoggldjjnabcaa

namespace Go.Proofs.Ytfoggldjjnabcaa
set_option linter.unusedVariables false
def itF (F:(Nat→Bool)→Nat→Bool):Nat→Nat→Bool
  | 0=>fun _=>false
  | k+1=>F (itF F k)
def cntF (n:Nat) (o:Nat→Bool):Nat:=(List.range n).countP o
theorem cntF_le (n:Nat) (o:Nat→Bool):cntF n o≤n:=by
  unfold cntF;have:=List.countP_le_length (p:=o) (l:=List.range n)
  rwa [List.length_range] at this
theorem cntF_lt {n b:Nat} {o o':Nat→Bool} (h:∀ b,o b=true→o' b=true) (hb:b<n) (h0:o b=false) (h1:o' b=true):cntF n o+1≤cntF n o':=by
  have hm:b∈List.range n:=List.mem_range.2 hb;obtain ⟨l1,l2,e⟩:=List.append_of_mem hm;unfold cntF;rw [e,List.countP_append,List.countP_append,List.countP_cons,List.countP_cons,h0,h1];have a1:List.countP o l1≤List.countP o' l1:=List.countP_mono_left fun b _ hb=>h b hb;have a2:List.countP o l2≤List.countP o' l2:=List.countP_mono_left fun b _ hb=>h b hb;simp;omega
theorem itF_fix {F:(Nat→Bool)→Nat→Bool} {n:Nat} (hinf:∀ o b,o b=true→F o b=true) (hsup:∀ o b,F o b=true→o b=true∨b<n):F (itF F n)=itF F n:=by
  have stay:∀ {j:Nat},F (itF F j)=itF F j→∀ k,itF F (j+k)=itF F j:=by
    intro j hj k
    induction k with
    | zero=>rfl
    | succ k ih=>show F (itF F (j+k))=_;rw [ih];exact hj
  have key:∀ k,(∃ j,j≤k∧F (itF F j)=itF F j)∨k≤cntF n (itF F k):=by
    intro k
    induction k with
    | zero=>exact .inr (Nat.zero_le _)
    | succ k ih =>
      rcases ih with ⟨j,h1,h2⟩ | ih
      · exact .inl ⟨j,by omega,h2⟩
      · by_cases e:F (itF F k)=itF F k
        · exact .inl ⟨k,by omega,e⟩
        · right;have:∃ b,itF F k b=false∧F (itF F k) b=true:=by
            apply Classical.byContradiction;intro hno;apply e;(funext b);cases h1:itF F k b
            · cases h2:F (itF F k) b
              · rfl
              · exact absurd ⟨b,h1,h2⟩ hno
            · exact hinf _ _ h1
          obtain ⟨b,h1,h2⟩:=this;have hb:b<n:=by
            rcases hsup _ _ h2 with h | h
            · rw [h1] at h;cases h
            · exact h
          have:=cntF_lt (o:=itF F k) (o':=F (itF F k)) (fun b h=>hinf _ _ h) hb h1 h2;show k+1≤cntF n (F (itF F k));omega
  rcases key n with ⟨j,h1,h2⟩ | h
  · have:=stay h2 (n - j);rw [show j+(n - j)=n by omega] at this;rw [this,h2]
  · (funext b);cases h1:itF F n b
    · cases h2:F (itF F n) b
      · rfl
      · exfalso;have hb:b<n:=by
          rcases hsup _ _ h2 with q | q
          · rw [h1] at q;cases q
          · exact q
        have h3:=cntF_lt (o:=itF F n) (o':=F (itF F n)) (fun b h=>hinf _ _ h) hb h1 h2;have:=cntF_le n (F (itF F n));omega
    · exact hinf _ _ h1
def setL (o:Nat→Bool) (l:List Nat):Nat→Bool:=fun b=>o b || decide (b∈l)
def stC (fr:Nat→List Nat) (mk:Nat→Bool) (o:Nat→Bool) (b:Nat):Nat→Bool:=if (mk b || o b)=true then setL o (fr b) else o
def rdC (fr:Nat→List Nat) (mk:Nat→Bool) (n:Nat) (o:Nat→Bool):Nat→Bool:=(List.range n).foldl (stC fr mk) o
def clC (fr:Nat→List Nat) (mk:Nat→Bool) (n:Nat):Nat→Bool:=itF (rdC fr mk n) n
variable {fr:Nat→List Nat} {mk:Nat→Bool} {n:Nat}
theorem stC_inf {o:Nat→Bool} {b x:Nat} (h:o x=true):stC fr mk o b x=true:=by
  unfold stC
  split
  · unfold setL;rw [h];rfl
  · exact h
theorem fold_inf:∀ (l:List Nat) {o:Nat→Bool} {x:Nat},o x=true→l.foldl (stC fr mk) o x=true:=by
  intro l
  induction l with
  | nil=>exact fun h=>h
  | cons b r ih=>exact fun h=>ih (stC_inf h)
theorem fold_sup (hfr:∀ b,∀ x∈fr b,x<n):∀ (l:List Nat) {o:Nat→Bool} {x:Nat},l.foldl (stC fr mk) o x=true→o x=true∨x<n:=by
  intro l
  induction l with
  | nil=>exact fun h=>.inl h
  | cons b r ih =>
    intro o x h;rcases ih h with h | h
    · unfold stC at h
      split at h
      · unfold setL at h;rw [Bool.or_eq_true,decide_eq_true_iff] at h;rcases h with h | h
        · exact .inl h
        · exact .inr (hfr b x h)
      · exact .inl h
    · exact .inr h
theorem fold_closed:∀ (l:List Nat) {o o':Nat→Bool} {b:Nat},(∀ x,o' x=true→o x=true)→b∈l→(mk b || o' b)=true→∀ x∈fr b,l.foldl (stC fr mk) o x=true:=by
  intro l
  induction l with
  | nil=>intro o o' b _ h;cases h
  | cons c r ih =>
    intro o o' b hs hb hm x hx;rcases List.mem_cons.1 hb with e | hb
    · subst e;show r.foldl (stC fr mk) (stC fr mk o b) x=true;apply fold_inf;unfold stC;have:(mk b || o b)=true:=by
        rw [Bool.or_eq_true] at hm ⊢;exact hm.imp id (hs b)
      rw [if_pos this];unfold setL;rw [decide_eq_true hx,Bool.or_true]
    · exact ih (o:=stC fr mk o c) (o':=o') (fun y hy=>stC_inf (hs y hy)) hb hm x hx
inductive ClG (fr:Nat→List Nat) (mk:Nat→Bool) (n:Nat):Nat→Prop
  | of {x b:Nat} (hx:x<n) (hm:mk x=true) (h:b∈fr x):ClG fr mk n b
  | on {x b:Nat} (hx:x<n) (hc:ClG fr mk n x) (h:b∈fr x):ClG fr mk n b
theorem fold_sound:∀ (l:List Nat) {o:Nat→Bool},(∀ b∈l,b<n)→(∀ x,o x=true→ClG fr mk n x)→∀ x,l.foldl (stC fr mk) o x=true→ClG fr mk n x:=by
  intro l
  induction l with
  | nil=>exact fun _ h=>h
  | cons b r ih =>
    intro o hl ho;refine ih (o:=stC fr mk o b) (fun c hc=>hl c (List.mem_cons_of_mem _ hc)) fun x hx=>?_;unfold stC at hx
    split at hx
    · rename_i hm;unfold setL at hx;rw [Bool.or_eq_true,decide_eq_true_iff] at hx;rw [Bool.or_eq_true] at hm;rcases hx with hx | hx
      · exact ho x hx
      · rcases hm with hm | hm
        · exact .of (hl b List.mem_cons_self) hm hx
        · exact .on (hl b List.mem_cons_self) (ho b hm) hx
    · exact ho x hx
theorem clC_iff (hfr:∀ b,∀ x∈fr b,x<n) (x:Nat):clC fr mk n x=true↔ClG fr mk n x:=by
  have hfix:rdC fr mk n (clC fr mk n)=clC fr mk n:=itF_fix (F:=rdC fr mk n) (n:=n) (fun o b h=>fold_inf _ h) (fun o b h=>fold_sup hfr _ h);constructor
  · have:∀ k x,itF (rdC fr mk n) k x=true→ClG fr mk n x:=by
      intro k
      induction k with
      | zero=>intro x h;cases h
      | succ k ih=>exact fun x h=>fold_sound (List.range n) (fun b hb=>List.mem_range.1 hb) ih x h
    exact this n x
  · intro h
    induction h with
    | of hx hm h =>
      rw [← hfix];exact fold_closed (List.range n) (fun y hy=>hy) (List.mem_range.2 hx) (by rw [hm];rfl) _ h
    | on hx hc h ih =>
      rw [← hfix];exact fold_closed (List.range n) (fun y hy=>hy) (List.mem_range.2 hx) (by rw [ih,Bool.or_true]) _ h
theorem clC_clA {E D:Nat→Nat→Prop} {mkp:Nat→Prop} (hfr:∀ b,∀ x∈fr b,x<n) (hF:∀ x b,x<n→(b∈fr x↔FrA E D x b)) (hmk:∀ x,x<n→(mk x=true↔mkp x)) (hlt:∀ x b,FrA E D x b→x<n) (x:Nat) :
    clC fr mk n x=true↔ClA E D mkp x:=by
  rw [clC_iff hfr];constructor
  · intro h
    induction h with
    | of hx hm h=>exact .of ((hmk _ hx).1 hm) ((hF _ _ hx).1 h)
    | on hx hc h ih=>exact .more ih ((hF _ _ hx).1 h)
  · intro h
    induction h with
    | of hm h=>exact .of (hlt _ _ h) ((hmk _ (hlt _ _ h)).2 hm) ((hF _ _ (hlt _ _ h)).2 h)
    | more hc h ih=>exact .on (hlt _ _ h) ih ((hF _ _ (hlt _ _ h)).2 h)
end Go.Proofs.Ytfoggldjjnabcaa

namespace Go.Proofs.Ytfoggldjjnabcaa
open Go.ChangeShapes Go.WideShapes Go.RowKit Go.Deep
set_option linter.unusedVariables false
inductive VerZ (P:SsP) (r:Nat):Nat→Nat→Nat→Prop
  | ins {b n i:Nat}:lastD (insB P.f b) r n=some i→VerZ P r b n (dsN P b i)
  | phi {b n:Nat}:lastD (insB P.f b) r n=none→r∈phL P b→VerZ P r b n (phN P b r)
  | par {n:Nat}:lastD (insB P.f 0) r n=none→r ∉ phL P 0→(r:Int)<P.f.params→VerZ P r 0 n r
  | zero {n:Nat}:lastD (insB P.f 0) r n=none→r ∉ phL P 0→¬ (r:Int)<P.f.params→r∈zrL P→VerZ P r 0 n (zrN P r)
  | up {b n v:Nat}:lastD (insB P.f b) r n=none→r ∉ phL P b→b≠0→b<P.f.blocks.length→VerZ P r (P.nr b) (insB P.f (P.nr b)).length v→VerZ P r b n v
theorem VerZ.ver {P:SsP} {r b n v:Nat} (h:VerZ P r b n v):Ver P r b n v:=by
  induction h with
  | ins h=>exact .ins h
  | phi h1 h2=>exact .phi h1 h2
  | par h1 h2 h3=>exact .par h1 h2 h3
  | zero h1 h2 h3 h4=>exact .zero h1 h2 h3
  | up h1 h2 h3 h4 h5 ih=>exact .up h1 h2 h3 ih
theorem SsOk.verZ {m:List FunD} {P:SsP} {D:Nat→Nat→Prop} {ord:Nat→Nat} (h:SsOk m P D ord) {r:Nat} (hr:r<P.f.regs.length):∀ (t:Nat) {b i:Nat} {k:BlkD},ord b≤t→P.f.blocks[b]?=some k→i≤k.ins.length→wantAt P.f r b i→∃ v,VerZ P r b i v∧(oldL P)[v]?=some r:=by
  intro t
  induction t with
  | zero =>
    intro b i k ht hb hi hw;have hbl:=(List.getElem?_eq_some_iff.1 hb).1;have ei:=qb hb;cases hl:lastD (insB P.f b) r i with
    | some j =>
      obtain ⟨q1,q2⟩:=lastD_some hl;rw [ei] at q2;have hx:k.ins[j]?=some k.ins[j]:=List.getElem?_eq_getElem (by omega);rw [List.getD_eq_getElem?_getD,hx] at q2;exact ⟨_,.ins hl,old_ds hbl (by rw [ei];exact hx) q2⟩
    | none =>
      by_cases hp:r∈phL P b
      · exact ⟨_,.phi hl hp,old_ph hbl hp⟩
      · by_cases h0:b=0
        · subst h0
          by_cases hpar:(r:Int)<P.f.params
          · exact ⟨_,.par hl hp hpar,old_par hpar⟩
          · (have hz:r∈zrL P:=mem_zrL.mpr ⟨hr,by omega,(h.want 0 r hbl hr).mpr (h.want_of hb hi hw (by rw [← ei];exact hl))⟩);exact ⟨_,.zero hl hp hpar hz,old_zr hz⟩
        · have:=h.dom.ord_ b hbl h0;omega
  | succ t ih =>
    intro b i k ht hb hi hw;have hbl:=(List.getElem?_eq_some_iff.1 hb).1;have ei:=qb hb;cases hl:lastD (insB P.f b) r i with
    | some j =>
      obtain ⟨q1,q2⟩:=lastD_some hl;rw [ei] at q2;have hx:k.ins[j]?=some k.ins[j]:=List.getElem?_eq_getElem (by omega);rw [List.getD_eq_getElem?_getD,hx] at q2;exact ⟨_,.ins hl,old_ds hbl (by rw [ei];exact hx) q2⟩
    | none =>
      have hwb:=h.want_of hb hi hw (by rw [← ei];exact hl)
      by_cases hp:r∈phL P b
      · exact ⟨_,.phi hl hp,old_ph hbl hp⟩
      · by_cases h0:b=0
        · subst h0
          by_cases hpar:(r:Int)<P.f.params
          · exact ⟨_,.par hl hp hpar,old_par hpar⟩
          · have hz:r∈zrL P:=mem_zrL.mpr ⟨hr,by omega,(h.want 0 r hbl hr).mpr hwb⟩;exact ⟨_,.zero hl hp hpar hz,old_zr hz⟩
        · have hc:¬ P.C b r=true:=fun g=>hp (mem_phL.mpr ⟨hr,(h.want b r hbl hr).mpr hwb,g⟩);have hwn:=h.near_want hbl h0 hwb hc;have ho:=h.dom.ord_ b hbl h0;have hnl:=(h.dom.dlt _ _ (h.dom.near_ b hbl h0).1).1;have hnb:P.f.blocks[P.nr b]?=some P.f.blocks[P.nr b]:=List.getElem?_eq_getElem hnl;obtain ⟨v,hv,hv2⟩:=ih (i:=P.f.blocks[P.nr b].ins.length) (by omega) hnb (Nat.le_refl _) ((wantAt_end hnb).mpr (.inr hwn));exact ⟨v,.up hl hp h0 hbl (by rw [qb hnb];exact hv),hv2⟩
theorem SsOk.vrZ {m:List FunD} {P:SsP} {D:Nat→Nat→Prop} {ord:Nat→Nat} (h:SsOk m P D ord) {r b i:Nat} {k:BlkD} (hr:r<P.f.regs.length) (hb:P.f.blocks[b]?=some k) (hi:i≤k.ins.length) (hw:wantAt P.f r b i):VerZ P r b i (vr P r b i):=by
  obtain ⟨v,h1,h2⟩:=h.verZ hr (ord b) (Nat.le_refl _) hb hi hw;rw [h1.ver.eq];exact h1
theorem dsL_succ {l:List InsD} {i:Nat} {x:InsD} (h:l[i]?=some x):dsL (l.take (i+1))=dsL (l.take i)++(if 0≤x.dst then [x.dst.toNat] else []):=by
  unfold dsL;rw [List.take_add_one,h,List.filterMap_append]
  by_cases hd:0≤x.dst
  · simp [hd]
  · simp [hd]
def Lim (f:FunD):Prop:=∀ b∈f.blocks,b.phis.length≤1000000∧b.ins.length≤1000000
theorem Lim.at_ {f:FunD} (h:Lim f) {k:Nat} {b:BlkD} (hb:f.blocks[k]?=some b):b.phis.length≤1000000∧b.ins.length≤1000000:=h b (List.mem_of_getElem? hb)
set_option maxRecDepth 100000 in
set_option maxHeartbeats 4000000 in
theorem isWithin_any (f:FunD) (v:Value) (w:World) (hv:VFun w v f) (hlim:Lim f) :
    Calls Try.prog 59 #[v] w fun e w'=>e=.returned (.bool (withinB f))∧Below w.heap.size w w':=by
  obtain ⟨Ar,cr,A,c,rfl,hr,hb,-,-⟩:=hv;have hbl:=hb.len;have hrl:=hr.len
  by_cases hok:1≤f.blocks.length∧f.blocks.length≤64∧f.regs.length≤256
  · obtain ⟨h1,h2,h3⟩:=hok;(go_enter Try.func59,Try.ntmps59);(go_wp2_with fail);obtain ⟨w1,hw1,hs1,hk1,hbel1,hc1,-⟩:=named w #[.int .i64 f.params,.int .i64 f.result,.slice Ar f.regs.length cr,.slice A f.blocks.length c] 31;rw [← hw1];clear hw1 hc1;have hs1:w.heap.size<w1.heap.size:=by omega
    go_loopw [3,28] (fun q i wr=>∃ k:Nat,k≤f.blocks.length∧i=.int .i64 k∧q=.int .i64 ((f.blocks.length+qj (f.blocks.take k):Nat):Int)∧qj (f.blocks.take k)≤k * 2000000∧Below w1.heap.size w1 wr) (fun _ i _=>f.blocks.length - (intOf i).toNat)
    case atStart=>exact ⟨0,Nat.zero_le _,rfl,rfl,Nat.zero_le _,Below.refl _ _⟩
    case round =>
      obtain ⟨k,hk,rfl,rfl,hi,hbel⟩:=hrel;have hs:=hbel.size;have hkw:Kept w1 wr:=q6 hbel;have hB:Below w.heap.size w wr:=hbel1.trans (hbel.mono (by omega))
      by_cases hlt:k<f.blocks.length
      · obtain ⟨b,o,kb,rfl,hkb,⟨Ap,cp,hphi,hphis⟩,⟨Ai,ci,hins,hinss⟩,⟨hkd,-⟩,⟨har,-⟩,⟨At,ct,hto,htos⟩⟩:=(SBlks.keep (hk1.trans hkw) hb).at_ hlt;obtain ⟨hl1,hl2⟩:=hlim.at_ hkb.out;have hst:=itemsK_step hkb.out;have HST:=Lib.hid hst;clear hst;(have hn:((f.blocks.length+qj (f.blocks.take k):Nat):Int)=(f.blocks.length:Int)+(qj (f.blocks.take k):Int):=by simp);generalize qj (f.blocks.take k)=q at *;clear hn;go_wp2_with fail
        go_roundw
        case rel=>exact ⟨k+1,by omega,by go_num,by rw [HST.out];congr 1;omega,by rw [HST.out];omega,hbel.alloc (by omega) _⟩
        case measure=>simp [intOf];omega
      · have hkk:f.blocks.take k=f.blocks:=List.take_of_length_le (by omega);rw [hkk];have hd:withinB f=decide (((f.blocks.length+qj f.blocks:Nat):Int)≤256):=by
          unfold withinB;congr 1;rw [eq_iff_iff];omega
        have HD:=Lib.hid hd;clear hd hkk hi;generalize qj f.blocks=q at *;(go_wp2_with fail);(go_ret);exact ⟨by rw [HD.out];simp,hB⟩
  · have hd:withinB f=false:=by
      unfold withinB;exact decide_eq_false (by omega)
    rw [hd];clear hd
    by_cases q1:f.blocks.length<1
    · clear hok;(go_enter Try.func59,Try.ntmps59);(go_wp2_with fail);all_goals (go_ret;exact ⟨rfl,(Below.refl _ _).alloc (Nat.le_refl _) _⟩)
    · by_cases q2:64<f.blocks.length
      · clear hok;(go_enter Try.func59,Try.ntmps59);(go_wp2_with fail);all_goals (go_ret;exact ⟨rfl,(Below.refl _ _).alloc (Nat.le_refl _) _⟩)
      · (have q3:256<f.regs.length:=by omega);clear hok;(go_enter Try.func59,Try.ntmps59);(go_wp2_with fail);all_goals (go_ret;exact ⟨rfl,(Below.refl _ _).alloc (Nat.le_refl _) _⟩)
set_option maxRecDepth 100000 in
set_option maxHeartbeats 4000000 in
theorem isTyped_any (f:FunD) (v:Value) (w:World) (hv:VFun w v f) :
    Calls Try.prog 60 #[v] w fun e w'=>e=.returned (.bool (typedB f))∧Below w.heap.size w w':=by
  obtain ⟨Ar,cr,A,c,rfl,hr,hb,-,-⟩:=hv;have hrl:=hr.len;(go_enter Try.func60,Try.ntmps60);(go_wp2_with fail);obtain ⟨w1,hw1,hs1,hk1,hbel1,hc1,-⟩:=named w #[.int .i64 f.params,.int .i64 f.result,.slice Ar f.regs.length cr,.slice A f.blocks.length c] 31;have hc0:=hc1 0 _ rfl;have hcr:=hc1 1 _ rfl;have hc2:=hc1 2 _ rfl;rw [← hw1]
  clear hw1 hc1;have hs1:w.heap.size<w1.heap.size:=by omega
  go_loopw [8] (fun i wr=>∃ k:Nat,k≤f.regs.length∧i=.int .i64 k∧Hid ((f.regs.take k).all isTy=true)∧wr=w1) (fun i _=>f.regs.length - (intOf i).toNat)
  case atStart=>exact ⟨0,Nat.zero_le _,rfl,Lib.hid rfl,rfl⟩
  case round =>
    obtain ⟨k,hk,rfl,hi,rfl⟩:=hrel
    by_cases hlt:k<f.regs.length
    · obtain ⟨b,o,x,rfl,hx,hxc,-⟩:=(SInts.keep hk1 hr).int hlt
      by_cases h1:x=1
      · subst h1;go_wp2_with fail
        go_roundw
        case rel=>exact ⟨k+1,by omega,by go_num,Lib.hid (by rw [all_step hx.out hi.out];rfl),trivial⟩
        case measure=>simp [intOf];omega
      · by_cases h2:x=2
        · subst h2;clear h1;go_wp2_with fail
          go_roundw
          case rel=>exact ⟨k+1,by omega,by go_num,Lib.hid (by rw [all_step hx.out hi.out];rfl),trivial⟩
          case measure=>simp [intOf];omega
        · have hf:isTy x=false:=decide_eq_false (by omega);(have h1':(x != 1)=true:=by simpa using h1);(have h2':(x != 2)=true:=by simpa using h2);have HF:=Lib.hid hf;clear h1 h2 hf;(go_wp2_with fail);(go_ret);exact ⟨by unfold typedB;rw [all_stop hx.out HF.out];rfl,hbel1⟩
    · have hd:=all_done hi.out (Nat.le_of_not_lt hlt);have HD:=Lib.hid hd;clear hd
      by_cases hp:0≤f.params∧f.params≤8∧f.params≤f.regs.length
      · obtain ⟨p1,p2,p3⟩:=hp;have HT:Hid (typedB f=decide (f.result=0∨f.result=1∨f.result=2)):=Lib.hid (by unfold typedB;rw [HD.out,decide_eq_true (show 0≤f.params∧f.params≤8∧f.params≤f.regs.length from ⟨p1,p2,p3⟩)];rfl)
        by_cases r0:f.result=0
        · (have HR:Hid (typedB f=true):=Lib.hid (by rw [HT.out];exact decide_eq_true (by omega)));(have r0':(f.result == 0)=true:=by simpa using r0);clear r0 HT;(go_wp2_with fail);(go_ret);exact ⟨by rw [HR.out];rfl,hbel1⟩
        · by_cases r1:f.result=1
          · (have HR:Hid (typedB f=true):=Lib.hid (by rw [HT.out];exact decide_eq_true (by omega)));(have r0':(f.result == 0)=false:=by simpa using r0);(have r1':(f.result == 1)=true:=by simpa using r1);clear r0 r1 HT;(go_wp2_with fail);(go_ret);exact ⟨by rw [HR.out];rfl,hbel1⟩
          · (have HR:Hid (typedB f=decide (f.result=2)):=Lib.hid (by rw [HT.out];congr 1;rw [eq_iff_iff];omega));(have r0':(f.result == 0)=false:=by simpa using r0);(have r1':(f.result == 1)=false:=by simpa using r1);clear r0 r1 HT;(go_wp2_with fail);(go_ret);exact ⟨by rw [HR.out];simp [Bool.beq_eq_decide_eq],hbel1⟩
      · have HT:Hid (typedB f=false):=Lib.hid (by unfold typedB;rw [decide_eq_false hp,Bool.and_false];rfl)
        by_cases p1:f.params<0
        · clear hp;(go_wp2_with fail);all_goals (go_ret;exact ⟨by rw [HT.out];rfl,hbel1⟩)
        · by_cases p2:8<f.params
          · clear hp;(go_wp2_with fail);all_goals (go_ret;exact ⟨by rw [HT.out];rfl,hbel1⟩)
          · (have p3:(f.regs.length:Int)<f.params:=by omega);clear hp;(go_wp2_with fail);all_goals (go_ret;exact ⟨by rw [HT.out];rfl,hbel1⟩)
theorem isAt_yes (a b:Int) (w:World) (h0:0≤a) (h1:a<b):Calls Try.prog 56 #[.int .i64 a,.int .i64 b] w fun e w'=>e=.returned (.bool true)∧w=w':=by
  (go_enter Try.func56,Try.ntmps56);(go_wp2_with fail);(go_ret);exact ⟨rfl,rfl⟩
theorem isAt_no (a b:Int) (w:World) (h:¬ (0≤a∧a<b)):Calls Try.prog 56 #[.int .i64 a,.int .i64 b] w fun e w'=>e=.returned (.bool false)∧w=w':=by
  by_cases h0:0≤a
  · (have h1:b≤a:=by omega);clear h;(go_enter Try.func56,Try.ntmps56);(go_wp2_with fail);(go_ret);exact ⟨by simp [h1],rfl⟩
  · clear h;(go_enter Try.func56,Try.ntmps56);(go_wp2_with fail);(go_ret);exact ⟨rfl,rfl⟩
theorem qx (a b:Int) (w:World):Calls Try.prog 56 #[.int .i64 a,.int .i64 b] w fun e w'=>e=.returned (.bool (isAtB a b))∧w=w':=by
  by_cases h:0≤a∧a<b
  · exact (isAt_yes a b w h.1 h.2).mono fun e w' h'=>⟨by rw [h'.1,isAtB,decide_eq_true h],h'.2⟩
  · exact (isAt_no a b w h).mono fun e w' h'=>⟨by rw [h'.1,isAtB,decide_eq_false h],h'.2⟩
theorem endsWith_any (l:List Int) (v:Value) (n:Int) (w:World) (hv:VS w 1 RInt v l) :
    Calls Try.prog 57 #[v,.int .i64 n] w fun e w'=>e=.returned (.bool (endsB l n))∧w=w':=by
  obtain ⟨A,c,rfl,hl⟩:=hv;have hlen:=hl.len
  by_cases h0:l.length=0
  · have he:endsB l n=false:=by
      rw [List.length_eq_zero_iff.1 h0];rfl
    rw [he];clear he;(have h00:¬ (0<l.length):=by omega);have H0:=Lib.hid h0;clear h0;(go_enter Try.func57,Try.ntmps57);(go_wp2_with fail);(go_ret);exact ⟨rfl,rfl⟩
  · (have h1:0<l.length:=by omega);clear h0;obtain ⟨b,o,x,rfl,hx,hc,-⟩:=hl.int (k:=l.length - 1) (by omega);have he:endsB l n=(x == n):=by
      rw [endsB,List.getLast?_eq_getElem?,hx.out];rfl
    rw [he];have hc':w.cell? ⟨b,o+(l.length - 1),none⟩=some (.int .i64 x):=hc;clear he hx;(go_enter Try.func57,Try.ntmps57);(go_wp2_with fail);(go_ret);exact ⟨rfl,rfl⟩
set_option maxRecDepth 100000 in
set_option maxHeartbeats 4000000 in
theorem ahead_any (f:FunD) (v:Value) (w:World) (hv:VFun w v f) (hn:f.blocks.length≤1000000) :
    Calls Try.prog 43 #[v] w fun e w'=>(∃ V G,e=.returned (.slice (some ⟨G,0,none⟩) f.blocks.length f.blocks.length)∧w.heap.size≤G∧Grid w' G f.blocks.length V (fun i=>qF f.blocks i))∧Below w.heap.size w w':=by
  obtain ⟨Ar,cr,A,c,rfl,hr,hb,-,-⟩:=hv;have hbl:=hb.len;obtain ⟨i0,hi,hz0,hz1,hz2⟩:=info_parts Try.info3;have HI:=Lib.hid (And.intro hi (And.intro hz0 (And.intro hz1 hz2)));clear hi hz0 hz1 hz2;have hmk:=run_make_row' (P:=Try.prog) 60 28 (.slice none 0 0) 24 Try.underlying60 Try.info28 rfl .i64 .i64 f.blocks.length (by omega) (by omega);(go_enter Try.func43,Try.ntmps43);(go_wp2_with fail);clear hmk
  obtain ⟨w1,hw1,hs1,hk1,hbel1,hc1,-⟩:=named w #[.int .i64 f.params,.int .i64 f.result,.slice Ar f.regs.length cr,.slice A f.blocks.length c] 31;have hc1:=hc1 3 _ rfl;rw [← hw1];clear hw1;have hgr:=Grid.made w1 (w.heap.size+1) f.blocks.length hs1.symm;have hbel1':Below (w.heap.size+1) w1 (w1.alloc (.cells (madeCells #[.slice none 0 0] f.blocks.length) 28)):=(Below.refl _ _).alloc (by omega) _;(have hs2:w.heap.size+1<(w1.alloc (.cells (madeCells #[.slice none 0 0] f.blocks.length) 28)).heap.size:=by simp;omega);generalize w1.alloc (.cells (madeCells #[.slice none 0 0] f.blocks.length) 28)=w2 at *;have HS1:=Lib.hid hs1
  clear hs1
  go_loopw [15] (fun i wr=>∃ (k:Nat) (V:Nat→Value),k≤f.blocks.length∧i=.int .i64 k∧Below (w.heap.size+1) w1 wr∧w.heap.size+1<wr.heap.size∧Grid wr (w.heap.size+1) f.blocks.length V (fun i=>qF (f.blocks.take k) i)) (fun i _=>f.blocks.length - (intOf i).toNat)
  case atStart=>exact ⟨0,_,Nat.zero_le _,rfl,hbel1',hs2,hgr⟩
  case round =>
    obtain ⟨k,V,hk,rfl,hbel,hs,hg⟩:=hrel;obtain ⟨wo,rfl⟩:∃ wo,wo=wr:=⟨wr,rfl⟩;(have hkw:Kept w1 wo:=kept_below hbel (by have:=HS1.out;omega));have hbox:=hkw _ _ hc1
    by_cases hlt:k<f.blocks.length
    · obtain ⟨b,o,kb,rfl,hkb,⟨Ap,cp,hphi,-⟩,⟨Ai,ci,hins,-⟩,⟨hkd,-⟩,⟨har,-⟩,⟨At,ct,hto,htos⟩⟩:=(SBlks.keep hk1 hb).at_ hlt;have hphi:=hkw _ _ hphi;have hins:=hkw _ _ hins;have hkd:=hkw _ _ hkd;have har:=hkw _ _ har;have hto:=hkw _ _ hto;have htl:=htos.len;(go_wp2_with fail);clear hphi hins hkd har hto
      obtain ⟨w3,hw3,hs3,hk3,hbel3,-,-⟩:=named wo #[.slice Ap kb.phis.length cp,.slice Ai kb.ins.length ci,.int .i64 kb.term.kind,.int .i64 kb.term.arg,.slice At kb.term.to.length ct] 43;have hg3:Grid w3 (w.heap.size+1) f.blocks.length V (LJ f.blocks k []):=by
        rw [hw3];exact (hg.alloc _).congr (fun i _=>(LJ_nil _ _ _).symm)
      have hb3:Below (w.heap.size+1) w1 w3:=hbel.trans (hbel3.mono (by omega));(have hs3:w.heap.size+1<w3.heap.size:=by omega);rw [← hw3];clear hw3
      go_loopw [24] (fun i wr=>∃ (j:Nat) (V:Nat→Value),j≤kb.term.to.length∧i=.int .i64 j∧Below (w.heap.size+1) w1 wr∧w.heap.size+1<wr.heap.size∧Grid wr (w.heap.size+1) f.blocks.length V (LJ f.blocks k (kb.term.to.take j))) (fun i _=>kb.term.to.length - (intOf i).toNat)
      case atStart=>exact ⟨0,V,Nat.zero_le _,rfl,hb3,hs3,hg3⟩
      case round =>
        obtain ⟨j,V',hj,rfl,hbelr,hsr,hgr'⟩:=hrel;(have hkr:Kept w1 wr:=kept_below hbelr (by have:=HS1.out;omega));have hboxr:=hkr _ _ hc1
        by_cases hjt:j<kb.term.to.length
        · obtain ⟨b',o',x,rfl,hx,hxc,-⟩:=htos.int hjt;have hxc:=hkr _ _ hxc
          by_cases hin:0≤x∧x<f.blocks.length
          · obtain ⟨q,rfl⟩:∃ q:Nat,x=q:=⟨x.toNat,by omega⟩;(have hq:q<f.blocks.length:=by omega);(have hq1:(q:Int)<f.blocks.length:=by omega);(have hq0:(0:Int)≤q:=by omega);clear hin;have hrow:=hgr'.row.cell hq;have hvs:VS wr 1 RInt (V' q) (LJ f.blocks k (kb.term.to.take j) q):=qV (hgr'.own q hq) (LJ_i64 _ _ _ _ (by omega) hn);have he:=LJ_ends f.blocks k (kb.term.to.take j) q;have HE:=Lib.hid he
            clear he;(go_wp2_with fail);refine (isAt_yes _ _ _ hq0 hq1).mono ?_;rintro e w' ⟨rfl,rfl⟩;(go_wp2_with fail);refine (endsWith_any _ _ _ _ hvs).mono ?_;rintro e w' ⟨rfl,rfl⟩;rw [HE.out];cases hh:hasTo q (kb.term.to.take j)
            · have HH:=Lib.hid hh;clear hh;have hll:=LJ_len f.blocks k (kb.term.to.take j) q;go_wp2_with (at_builtin;refine wpList_append_lies _ rfl (.tmp 47) (.tmp 49) 28 rfl (w.heap.size+1+1) 3 i0 (.int .i64 0) 1 8 Try.underlying28 HI.out.1 HI.out.2.1 HI.out.2.2.1 HI.out.2.2.2 rfl (by decide) (V' q) _ _ rfl ((hgr'.own q hq).alloc _) ⟨wr.heap.size,0,none⟩ 1 1 [.int .i64 k] rfl rfl ?c1 ?c2 ?c0 ?c3 ?c4 ?c5 (wr.heap.size+1) ?c6 ?_)
              case c1=>exact qR wr _ _ rfl
              case c2=>exact ints_oneCell .i64 [(k:Int)]
              case c0=>omega
              case c3=>unfold maxLen;omega
              case c4=>omega
              case c5=>simp;omega
              case c6=>simp
              intro g cap w4 hown4 hgrow4 hloc4 hlt4;have hgp:=Grid.push (hgr'.alloc _) hq hown4 hgrow4 (by simpa using hloc4);have hgp':=hgp.congr (fun i _=>LJ_new hx.out i HH.out);(have hb4:Below (w.heap.size+1) w1 w4:=(hbelr.alloc (by omega) _).grown hgrow4 (by simp;omega) (fun g hg=>by have:=((hgr'.own q hq).lt g hg).1;omega));(have hG4:w4.heap[w.heap.size+1]?=(wr.alloc (.cells #[.int .i64 k] 3)).heap[w.heap.size+1]?:=hgrow4.block _ (by simp;omega) (fun e=>by have:=((hgr'.own q hq).lt _ e.symm).1;omega));have hrow4:=(World.cell?_of_block (a:=⟨w.heap.size+1,q,none⟩) hG4).trans ((hgr'.row.alloc _).cell hq);have hfr4:=(World.frozen?_of_block (a:=⟨w.heap.size+1,q,none⟩) hG4).trans ((hgr'.row.alloc _).frozen q);(have hs4:w.heap.size+1<w4.heap.size:=by have:=hgrow4.size;simp at this;omega);have HP:=Lib.hid hgp'
              clear hgp hgp' hown4 hgrow4 hloc4 hG4 hgr' hrow hvs;go_wp2_with fail
              go_roundw
              case rel=>exact ⟨j+1,_,by omega,by go_num,hb4.setCell (by show _≤w.heap.size+1;omega) _,by simpa using hs4,HP.out⟩
              case measure=>simp [intOf];omega
            · have HH:=Lib.hid hh;clear hh;go_wp2_with fail
              go_roundw
              case rel=>exact ⟨j+1,V',by omega,by go_num,hbelr,hsr,hgr'.congr (fun i _=>LJ_again hx.out i HH.out)⟩
              case measure=>simp [intOf];omega
          · (go_wp2_with fail);refine (isAt_no _ _ _ hin).mono ?_;rintro e w' ⟨rfl,rfl⟩;go_wp2_with fail
            go_roundw
            case rel=>exact ⟨j+1,V',by omega,by go_num,hbelr,hsr,hgr'.congr (fun i hi=>LJ_out hx.out i (fun e=>hin (by omega)))⟩
            case measure=>simp [intOf];omega
        · have hjj:kb.term.to.take j=kb.term.to:=List.take_of_length_le (by omega);rw [hjj] at hgr';clear hjj;go_wp2_with fail
          go_roundw
          case rel=>exact ⟨k+1,V',by omega,by go_num,hbelr,hsr,hgr'.congr (fun i _=>LJ_all i hkb.out)⟩
          case measure=>simp [intOf];omega
    · have hkk:f.blocks.take k=f.blocks:=List.take_of_length_le (by omega);rw [hkk] at hg;clear hkk;(go_wp2_with fail);(go_ret);exact ⟨⟨V,_,rfl,by omega,hg⟩,hbel1.trans (hbel.mono (by omega))⟩
end Go.Proofs.Ytfoggldjjnabcaa
