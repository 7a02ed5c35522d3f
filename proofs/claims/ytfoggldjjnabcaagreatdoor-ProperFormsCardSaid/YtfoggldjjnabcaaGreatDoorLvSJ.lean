/- Mathematics of the one-assignment form: new registers, versions, and what is built. -/
import Derived.Test.YtfoggldjjnabcaaGreatDoorSsMJ
import Derived.Test.YtfoggldjjnabcaaGreatDoorAheadGJ
namespace Go.Proofs.YtfoggldjjnabcaaGreatDoor
open Go.RowKit
set_option linter.unusedVariables false
structure SsP where
  f:FunD
  W:Nat→Nat→Bool
  C:Nat→Nat→Bool
  nr:Nat→Nat
def insB (f:FunD) (b:Nat):List InsD:=(blkAt f b).ins
def phL (P:SsP) (b:Nat):List Nat:=(List.range P.f.regs.length).filter fun r=>P.W b r && P.C b r
def zrL (P:SsP):List Nat:=(List.range P.f.regs.length).filter fun r=>decide (P.f.params≤(r:Int)) && P.W 0 r
def dsL (l:List InsD):List Nat:=l.filterMap fun x=>if 0≤x.dst then some x.dst.toNat else none
def oldB (P:SsP) (b:Nat):List Nat:=phL P b++dsL (insB P.f b)
def oldL (P:SsP):List Nat:=(List.range P.f.params.toNat++zrL P)++(List.range P.f.blocks.length).flatMap (oldB P)
def baseN (P:SsP) (b:Nat):Nat:=P.f.params.toNat+(zrL P).length+((List.range b).flatMap (oldB P)).length
def zrN (P:SsP) (r:Nat):Nat:=P.f.params.toNat+(zrL P).idxOf r
def phN (P:SsP) (b r:Nat):Nat:=baseN P b+(phL P b).idxOf r
def dsN (P:SsP) (b i:Nat):Nat:=baseN P b+(phL P b).length+(dsL ((insB P.f b).take i)).length
def lastD (ins:List InsD) (r:Nat):Nat→Option Nat
  | 0=>none
  | k+1=>if (ins.getD k default).dst=(r:Int) then some k else lastD ins r k
inductive Ver (P:SsP) (r:Nat):Nat→Nat→Nat→Prop
  | ins {b n i:Nat}:lastD (insB P.f b) r n=some i→Ver P r b n (dsN P b i)
  | phi {b n:Nat}:lastD (insB P.f b) r n=none→r∈phL P b→Ver P r b n (phN P b r)
  | par {n:Nat}:lastD (insB P.f 0) r n=none→r ∉ phL P 0→(r:Int)<P.f.params→Ver P r 0 n r
  | zero {n:Nat}:lastD (insB P.f 0) r n=none→r ∉ phL P 0→¬ (r:Int)<P.f.params→Ver P r 0 n (zrN P r)
  | up {b n v:Nat}:lastD (insB P.f b) r n=none→r ∉ phL P b→b≠0→Ver P r (P.nr b) (insB P.f (P.nr b)).length v→Ver P r b n v
theorem Ver.one {P:SsP} {r b n v:Nat} (h:Ver P r b n v):∀ {u},Ver P r b n u→u=v:=by
  induction h with
  | ins h1 =>
    intro u k;cases k with
    | ins k1=>rw [h1] at k1;cases k1;rfl
    | phi k1 k2=>rw [h1] at k1;cases k1
    | par k1 k2 k3=>rw [h1] at k1;cases k1
    | zero k1 k2 k3=>rw [h1] at k1;cases k1
    | up k1 k2 k3 k4=>rw [h1] at k1;cases k1
  | phi h1 h2 =>
    intro u k;cases k with
    | ins k1=>rw [h1] at k1;cases k1
    | phi k1 k2=>rfl
    | par k1 k2 k3=>exact absurd h2 k2
    | zero k1 k2 k3=>exact absurd h2 k2
    | up k1 k2 k3 k4=>exact absurd h2 k2
  | par h1 h2 h3 =>
    intro u k;cases k with
    | ins k1=>rw [h1] at k1;cases k1
    | phi k1 k2=>exact absurd k2 h2
    | par k1 k2 k3=>rfl
    | zero k1 k2 k3=>exact absurd h3 k3
    | up k1 k2 k3 k4=>exact absurd rfl k3
  | zero h1 h2 h3 =>
    intro u k;cases k with
    | ins k1=>rw [h1] at k1;cases k1
    | phi k1 k2=>exact absurd k2 h2
    | par k1 k2 k3=>exact absurd k3 h3
    | zero k1 k2 k3=>rfl
    | up k1 k2 k3 k4=>exact absurd rfl k3
  | up h1 h2 h3 h4 ih =>
    intro u k;cases k with
    | ins k1=>rw [h1] at k1;cases k1
    | phi k1 k2=>exact absurd k2 h2
    | par k1 k2 k3=>exact absurd rfl h3
    | zero k1 k2 k3=>exact absurd rfl h3
    | up k1 k2 k3 k4=>exact ih k4
open Classical in
noncomputable def vr (P:SsP) (r b n:Nat):Nat:=if h:∃ v,Ver P r b n v then h.choose else 0
theorem Ver.eq {P:SsP} {r b n v:Nat} (h:Ver P r b n v):vr P r b n=v:=by
  unfold vr;have hh:∃ v,Ver P r b n v:=⟨v,h⟩;rw [dif_pos hh];exact h.one hh.choose_spec
theorem vr_up {P:SsP} {r b n:Nat} (h1:lastD (insB P.f b) r n=none) (h2:r ∉ phL P b) (h3:b≠0):vr P r b n=vr P r (P.nr b) (insB P.f (P.nr b)).length:=by
  by_cases h:∃ v,Ver P r (P.nr b) (insB P.f (P.nr b)).length v
  · obtain ⟨v,hv⟩:=h;rw [hv.eq,(Ver.up h1 h2 h3 hv).eq]
  · have h':¬ ∃ v,Ver P r b n v:=fun ⟨v,hv⟩=>by
      cases hv with
      | ins k1=>rw [h1] at k1;cases k1
      | phi k1 k2=>exact h2 k2
      | par k1 k2 k3=>exact h3 rfl
      | zero k1 k2 k3=>exact h3 rfl
      | up k1 k2 k3 k4=>exact h ⟨v,k4⟩
    unfold vr;rw [dif_neg h,dif_neg h']
theorem lastD_some {ins:List InsD} {r:Nat}:∀ {n i:Nat},lastD ins r n=some i→i<n∧(ins.getD i default).dst=(r:Int)
  | 0,i,h=>by simp [lastD] at h
  | n+1,i,h=>by
    unfold lastD at h
    split at h
    · rename_i e;cases h;exact ⟨by omega,e⟩
    · obtain ⟨a,b⟩:=lastD_some h;exact ⟨by omega,b⟩
theorem lastD_none {ins:List InsD} {r:Nat}:∀ {n:Nat},lastD ins r n=none→∀ i,i<n→(ins.getD i default).dst≠(r:Int)
  | 0,h,i,hi=>by omega
  | n+1,h,i,hi=>by
    unfold lastD at h
    split at h
    · cases h
    · rename_i e
      by_cases q:i=n
      · rw [q];exact e
      · exact lastD_none h i (by omega)
theorem lastD_of {ins:List InsD} {r:Nat}:∀ {n:Nat},(∀ i,i<n→(ins.getD i default).dst≠(r:Int))→lastD ins r n=none
  | 0,h=>rfl
  | n+1,h=>by
    unfold lastD;rw [if_neg (h n (by omega))];exact lastD_of fun i hi=>h i (by omega)
theorem mkI_last {ins:List InsD} {r n:Nat} (hn:n≤ins.length):mkI ins n r=false↔lastD ins r n=none:=by
  unfold mkI;constructor
  · intro h;rw [List.any_eq_false] at h;refine lastD_of fun i hi e=>?_;have hx:ins[i]?=some ins[i]:=List.getElem?_eq_getElem (by omega);(have hm:ins[i]∈ins.take n:=List.mem_of_getElem? (i:=i) (by rw [List.getElem?_take_of_lt hi];exact hx));have:=h _ hm;rw [List.getD_eq_getElem?_getD,hx] at e;exact this (by simpa using e)
  · intro h;rw [List.any_eq_false];intro x hx hd;obtain ⟨i,hi⟩:=List.getElem?_of_mem hx;rw [List.getElem?_take] at hi
    split at hi
    · rename_i hl;have:=lastD_none h i hl;rw [List.getD_eq_getElem?_getD,hi] at this;exact this (by simpa using hd)
    · cases hi
theorem flat_get {α:Type} {g:Nat→List α} {x:α} {b j:Nat} (hx:(g b)[j]?=some x):∀ {n:Nat},b<n→((List.range n).flatMap g)[((List.range b).flatMap g).length+j]?=some x
  | 0,h=>by omega
  | n+1,h=>by
    rw [List.range_succ,List.flatMap_append]
    by_cases e:b=n
    · rw [e] at hx ⊢;rw [List.getElem?_append_right (by omega)];simpa using hx
    · have ih:=flat_get hx (n:=n) (by omega);have hl:=(List.getElem?_eq_some_iff.1 ih).1;rw [List.getElem?_append_left hl];exact ih
theorem old_at {P:SsP} {b j r:Nat} (hb:b<P.f.blocks.length) (hx:(oldB P b)[j]?=some r):(oldL P)[baseN P b+j]?=some r:=by
  unfold oldL baseN;(rw [List.getElem?_append_right (by simp;omega)]);(rw [show P.f.params.toNat+(zrL P).length+((List.range b).flatMap (oldB P)).length+j - (List.range P.f.params.toNat++zrL P).length=((List.range b).flatMap (oldB P)).length+j by simp;omega]);exact flat_get hx hb
theorem idx_in {l:List Nat} {x:Nat} (h:x∈l):l[l.idxOf x]?=some x:=by
  rw [List.getElem?_eq_getElem (List.idxOf_lt_length_iff.2 h),List.getElem_idxOf]
theorem old_ph {P:SsP} {b r:Nat} (hb:b<P.f.blocks.length) (hr:r∈phL P b):(oldL P)[phN P b r]?=some r:=by
  refine old_at hb ?_;unfold oldB;rw [List.getElem?_append_left (List.idxOf_lt_length_iff.2 hr)];exact idx_in hr
theorem dsL_at {l:List InsD} {i:Nat} {x:InsD} (hx:l[i]?=some x) (hd:0≤x.dst):(dsL l)[(dsL (l.take i)).length]?=some x.dst.toNat:=by
  obtain ⟨hi,e⟩:=List.getElem?_eq_some_iff.1 hx;(have hs:l=l.take i++x::l.drop (i+1):=by rw [← e,List.getElem_cons_drop,List.take_append_drop]);have:dsL l=dsL (l.take i)++(x.dst.toNat::dsL (l.drop (i+1))):=by
    conv=>lhs;rw [hs]
    unfold dsL;rw [List.filterMap_append,List.filterMap_cons];simp only [if_pos hd]
  rw [this,List.getElem?_append_right (Nat.le_refl _),Nat.sub_self]
  rfl
theorem old_ds {P:SsP} {b i r:Nat} (hb:b<P.f.blocks.length) {x:InsD} (hx:(insB P.f b)[i]?=some x) (hd:x.dst=(r:Int)):(oldL P)[dsN P b i]?=some r:=by
  have h:=old_at (P:=P) (b:=b) (j:=(phL P b).length+(dsL ((insB P.f b).take i)).length) (r:=r) hb (by
    unfold oldB;rw [List.getElem?_append_right (by omega)];have:=dsL_at hx (by omega);rw [hd] at this
    simpa using this)
  unfold dsN;rw [Nat.add_assoc];exact h
theorem old_zr {P:SsP} {r:Nat} (hr:r∈zrL P):(oldL P)[zrN P r]?=some r:=by
  unfold oldL zrN;have hl:=List.idxOf_lt_length_iff.2 hr;(rw [List.getElem?_append_left (by simp;omega),List.getElem?_append_right (by simp)]);simpa using idx_in hr
theorem old_par {P:SsP} {r:Nat} (hr:(r:Int)<P.f.params):(oldL P)[r]?=some r:=by
  unfold oldL;(rw [List.getElem?_append_left (by simp;omega),List.getElem?_append_left (by simp;omega)]);rw [List.getElem?_range (by omega)]
def EdP (f:FunD) (p b:Nat):Prop:=b<f.blocks.length∧(p:Int)∈qG f.blocks b
def mkP (f:FunD) (r b:Nat):Prop:=b=0∨mkB f.blocks b r=true
structure SsOk (m:List FunD) (P:SsP) (D:Nat→Nat→Prop) (ord:Nat→Nat):Prop where
  fn:FunOk m P.f
  plain:∀ b∈P.f.blocks,b.phis=[]
  dom:DomA P.f.blocks.length (EdP P.f) D P.nr ord
  cl:∀ r b,b<P.f.blocks.length→(P.C b r=true↔ClA (EdP P.f) D (mkP P.f r) b)
  want:∀ b r,b<P.f.blocks.length→r<P.f.regs.length→(P.W b r=true↔Want P.f.blocks false b r)
theorem SsOk.no_ph {m:List FunD} {P:SsP} {D:Nat→Nat→Prop} {ord:Nat→Nat} (h:SsOk m P D ord) (b r:Nat):phB P.f.blocks b r=false:=by
  unfold phB;cases hb:P.f.blocks[b]? with
  | none=>rfl
  | some k=>simp only [];rw [h.plain k (List.mem_of_getElem? hb)];rfl
theorem insB_at {f:FunD} {b:Nat} {k:BlkD} (hb:f.blocks[b]?=some k):insB f b=k.ins:=by unfold insB;rw [show blkAt f b=k from getD_of hb]
theorem want_back {f:FunD} {r b:Nat} {k:BlkD} (hb:f.blocks[b]?=some k):∀ {i:Nat},i≤k.ins.length→wantAt f r b i→lastD k.ins r i=none→wantAt f r b 0
  | 0,_,h,_=>h
  | i+1,hi,h,hl=>by
    have hx:k.ins[i]?=some k.ins[i]:=List.getElem?_eq_getElem (by omega);have hd:=lastD_none hl i (by omega);have hl':lastD k.ins r i=none:=lastD_of fun j hj=>lastD_none hl j (by omega);refine want_back hb (by omega) ((wantAt_step hb hx).mpr (.inr ⟨?_,h⟩)) hl';rw [List.getD_eq_getElem?_getD,hx] at hd;exact hd
theorem SsOk.want_of {m:List FunD} {P:SsP} {D:Nat→Nat→Prop} {ord:Nat→Nat} (h:SsOk m P D ord) {r b i:Nat} {k:BlkD} (hb:P.f.blocks[b]?=some k) (hi:i≤k.ins.length) (hw:wantAt P.f r b i) (hl:lastD k.ins r i=none):Want P.f.blocks false b r :=
  want_first hb (h.no_ph b r) (want_back hb hi hw hl)
theorem mem_phL {P:SsP} {b r:Nat}:r∈phL P b↔r<P.f.regs.length∧P.W b r=true∧P.C b r=true:=by
  unfold phL;rw [List.mem_filter,List.mem_range,Bool.and_eq_true]
theorem mem_zrL {P:SsP} {r:Nat}:r∈zrL P↔r<P.f.regs.length∧P.f.params≤(r:Int)∧P.W 0 r=true:=by
  unfold zrL;rw [List.mem_filter,List.mem_range,Bool.and_eq_true,decide_eq_true_iff]
theorem SsOk.near_want {m:List FunD} {P:SsP} {D:Nat→Nat→Prop} {ord:Nat→Nat} (h:SsOk m P D ord) {r b:Nat} (hb:b<P.f.blocks.length) (h0:b≠0) (hw:Want P.f.blocks false b r) (hc:¬ P.C b r=true):Want P.f.blocks true (P.nr b) r:=by
  refine h.dom.wanted (mk:=mkP P.f r) (wb:=fun b=>Want P.f.blocks false b r) (we:=fun b=>Want P.f.blocks true b r) ?_ ?_ (ord b) b (Nat.le_refl _) hb h0 hw (fun g=>hc ((h.cl r b hb).mpr g))
  · intro p c he hw;exact .back he.1 he.2 hw
  · intro c hc hw hn
    exact .thru hc hw (by
      cases e:mkB P.f.blocks c r with
      | false=>rfl
      | true=>exact absurd (.inr e) hn) (h.no_ph c r)
theorem SsOk.ver {m:List FunD} {P:SsP} {D:Nat→Nat→Prop} {ord:Nat→Nat} (h:SsOk m P D ord) {r:Nat} (hr:r<P.f.regs.length):∀ (t:Nat) {b i:Nat} {k:BlkD},ord b≤t→P.f.blocks[b]?=some k→i≤k.ins.length→wantAt P.f r b i→∃ v,Ver P r b i v∧(oldL P)[v]?=some r:=by
  intro t
  induction t with
  | zero =>
    intro b i k ht hb hi hw;have hbl:=(List.getElem?_eq_some_iff.1 hb).1;have ei:=insB_at hb;cases hl:lastD (insB P.f b) r i with
    | some j =>
      obtain ⟨q1,q2⟩:=lastD_some hl;rw [ei] at q2;have hx:k.ins[j]?=some k.ins[j]:=List.getElem?_eq_getElem (by omega);rw [List.getD_eq_getElem?_getD,hx] at q2;exact ⟨_,.ins hl,old_ds hbl (by rw [ei];exact hx) q2⟩
    | none =>
      by_cases hp:r∈phL P b
      · exact ⟨_,.phi hl hp,old_ph hbl hp⟩
      · by_cases h0:b=0
        · subst h0
          by_cases hpar:(r:Int)<P.f.params
          · exact ⟨_,.par hl hp hpar,old_par hpar⟩
          · refine ⟨_,.zero hl hp hpar,old_zr (mem_zrL.mpr ⟨hr,by omega,(h.want 0 r hbl hr).mpr ?_⟩)⟩;exact h.want_of hb hi hw (by rw [← ei];exact hl)
        · have:=h.dom.ord_ b hbl h0;omega
  | succ t ih =>
    intro b i k ht hb hi hw;have hbl:=(List.getElem?_eq_some_iff.1 hb).1;have ei:=insB_at hb;cases hl:lastD (insB P.f b) r i with
    | some j =>
      obtain ⟨q1,q2⟩:=lastD_some hl;rw [ei] at q2;have hx:k.ins[j]?=some k.ins[j]:=List.getElem?_eq_getElem (by omega);rw [List.getD_eq_getElem?_getD,hx] at q2;exact ⟨_,.ins hl,old_ds hbl (by rw [ei];exact hx) q2⟩
    | none =>
      have hwb:=h.want_of hb hi hw (by rw [← ei];exact hl)
      by_cases hp:r∈phL P b
      · exact ⟨_,.phi hl hp,old_ph hbl hp⟩
      · by_cases h0:b=0
        · subst h0
          by_cases hpar:(r:Int)<P.f.params
          · exact ⟨_,.par hl hp hpar,old_par hpar⟩
          · exact ⟨_,.zero hl hp hpar,old_zr (mem_zrL.mpr ⟨hr,by omega,(h.want 0 r hbl hr).mpr hwb⟩)⟩
        · have hc:¬ P.C b r=true:=fun g=>hp (mem_phL.mpr ⟨hr,(h.want b r hbl hr).mpr hwb,g⟩);have hwn:=h.near_want hbl h0 hwb hc;have ho:=h.dom.ord_ b hbl h0;have hnl:=(h.dom.dlt _ _ (h.dom.near_ b hbl h0).1).1;have hnb:P.f.blocks[P.nr b]?=some P.f.blocks[P.nr b]:=List.getElem?_eq_getElem hnl;obtain ⟨v,hv,hv2⟩:=ih (i:=P.f.blocks[P.nr b].ins.length) (by omega) hnb (Nat.le_refl _) ((wantAt_end hnb).mpr (.inr hwn));exact ⟨v,.up hl hp h0 (by rw [insB_at hnb];exact hv),hv2⟩
theorem SsOk.old {m:List FunD} {P:SsP} {D:Nat→Nat→Prop} {ord:Nat→Nat} (h:SsOk m P D ord) {r b i:Nat} {k:BlkD} (hr:r<P.f.regs.length) (hb:P.f.blocks[b]?=some k) (hi:i≤k.ins.length) (hw:wantAt P.f r b i):(oldL P)[vr P r b i]?=some r:=by
  obtain ⟨v,h1,h2⟩:=h.ver hr (ord b) (Nat.le_refl _) hb hi hw;rw [h1.eq];exact h2
theorem SsOk.same {m:List FunD} {P:SsP} {D:Nat→Nat→Prop} {ord:Nat→Nat} (h:SsOk m P D ord) {r p b:Nat} (hr:r<P.f.regs.length) (he:EdP P.f p b) (hw:Want P.f.blocks false b r) (hp:r ∉ phL P b):vr P r b 0=vr P r p (insB P.f p).length:=by
  obtain ⟨hpl,hbl,h0⟩:=h.dom.edge p b he;have hc:¬ P.C b r=true:=fun g=>hp (mem_phL.mpr ⟨hr,(h.want b r hbl hr).mpr hw,g⟩);rw [vr_up rfl hp h0];refine (h.dom.same_pred (mk:=mkP P.f r) (ver:=fun e=>vr P r e (insB P.f e).length) ?_ (fun g=>hc ((h.cl r b hbl).mpr g)) he).symm;intro e hel e0 hm hcl;have heb:P.f.blocks[e]?=some P.f.blocks[e]:=List.getElem?_eq_getElem hel;have ei:=insB_at heb;show vr P r e (insB P.f e).length=vr P r (P.nr e) (insB P.f (P.nr e)).length;refine vr_up ?_ (fun g=>hcl ((h.cl r e hel).mp (mem_phL.mp g).2.2)) e0
  rw [ei];refine (mkI_last (Nat.le_refl _)).mp ?_;rw [← mkB_at heb];cases q:mkB P.f.blocks e r with
  | false=>rfl
  | true=>exact absurd (.inr q) hm
end Go.Proofs.YtfoggldjjnabcaaGreatDoor

namespace Go.Proofs.YtfoggldjjnabcaaGreatDoor
open Go.ChangeShapes Go.WideShapes Go.RowKit Go.Deep
set_option linter.unusedVariables false
theorem ah_lt {bs:List BlkD} {t j:Nat} {x:Int} (h:(qG bs t)[j]?=some x):∃ q:Nat,x=(q:Int)∧q<bs.length:=by
  have h2:=aheadK_mem bs 0 t x (List.mem_of_getElem? h);simp at h2;exact ⟨x.toNat,by omega,by omega⟩
end Go.Proofs.YtfoggldjjnabcaaGreatDoor
