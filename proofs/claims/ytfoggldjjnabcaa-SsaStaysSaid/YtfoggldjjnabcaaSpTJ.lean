/- The reference of layer 6: Nearest, Frontier; in mathematics, the program's are these. -/
import Derived.Test.YtfoggldjjnabcaaGrMJ
import Derived.Test.YtfoggldjjnabcaaDmWJ
import Derived.Test.YtfoggldjjnabcaaDmTsJ
import Derived.Test.YtfoggldjjnabcaaLpMJ
import Derived.Test.YtfoggldjjnabcaaAheadJ
import Derived.Test.YtfoggldjjnabcaaSpMJ
import Derived.Test.YtfoggldjjnabcaaSpecJ
namespace Go.Proofs.Ytfoggldjjnabcaa
open Go.ChangeShapes Go.WideShapes Go.RowKit Go.Deep
set_option linter.unusedVariables false
variable {bs:List BlkD}
def ledR (bs:List BlkD) (a b k:Nat):Bool:=(List.range k).any fun c=>dmB bs a c && hasTo b (tosOf bs c)
def rfB (bs:List BlkD) (a b:Nat):Bool:=ledR bs a b bs.length && (decide (a=b) || !dmB bs a b)
def rfL (bs:List BlkD) (m a:Nat):List Nat:=(List.range m).filter (rfB bs a)
theorem rfL_lt {m a b:Nat} (h:b∈rfL bs m a):b<m:=by unfold rfL at h;rw [List.mem_filter,List.mem_range] at h;exact h.1
theorem NearB.dm_near {N:Nat→Int} {ord:Nat→Nat} (h:NearB bs N ord) {a b:Nat} (ha:a<bs.length) (hb:b<bs.length) (hrb:fromB bs 0 (-1) b=true):(decide (a=b) || !dmB bs a b)=(decide (N b<0) || !dmB bs a (N b).toNat):=by
  by_cases h0:b=0
  · subst h0;rw [h.none 0 hb (.inr rfl)];have:decide ((-1:Int)<0)=true:=rfl;rw [this,Bool.true_or];cases hd:dmB bs a 0
    · simp
    · have h1:=h.first a ha (h.reach a 0 ha hb hd);have h2:=h.ord 0 a hb ha h1;have h3:=h.ord a 0 ha hb hd;have:a=0:=h3.2 (by omega);simp [this]
  · obtain ⟨p,hp,he,hpb,hdp,hall⟩:=h.some b hb hrb h0;rw [he,Int.toNat_natCast,decide_eq_false (by omega:¬ ((p:Int)<0)),Bool.false_or]
    by_cases e:a=b
    · subst e;have hno:dmB bs a p=false:=by
        cases hdq:dmB bs a p
        · rfl
        · have h1:=h.ord a p ha hp hdq;have h2:=h.ord p a hp ha hdp;exact absurd (h2.2 (by omega)) hpb
      rw [hno];simp
    · rw [decide_eq_false e,Bool.false_or];have:dmB bs a b=dmB bs a p:=by
        cases hdq:dmB bs a b
        · cases hdp2:dmB bs a p
          · rfl
          · rw [h.trans a p b hdp2 hdp] at hdq;cases hdq
        · exact (hall a ha e hdq).symm
      rw [this]
theorem reach_on {c b:Nat} (hn:0<bs.length) (hc:qE bs c=true) (hb:b∈nxF bs c):qE bs b=true:=by
  unfold qE reachB at hc ⊢;rw [decide_eq_true_iff,orderL_mem (qe bs) (by omega)] at hc ⊢;exact .step hc hb
theorem NearB.fr_eq {ord:Nat→Nat} (h:NearB bs (nearD bs) ord) {a b:Nat} (ha:a<bs.length) (hb:b<bs.length):rfB bs a b=frB bs a b:=by
  have key:∀ c,(c<bs.length∧(dmB bs a c && hasTo b (tosOf bs c))=true)↔(c∈raL bs bs.length b∧dmB bs a c=true):=fun c=>by
    constructor
    · rintro ⟨hc,h1⟩;rw [Bool.and_eq_true] at h1;refine ⟨?_,h1.1⟩;unfold raL;rw [List.mem_filter,List.mem_range,Bool.and_eq_true,decide_eq_true_iff];(refine ⟨hc,by rw [← qO];exact dm_reach h1.1,?_⟩);have hat:bs[c]?=Option.some (bs[c]'hc):=List.getElem?_eq_getElem hc;rw [nxF_mem hat];refine ⟨hb,?_⟩
      have h2:=h1.2;rw [tosOf_at hat] at h2;unfold hasTo at h2;rw [List.any_eq_true] at h2;obtain ⟨y,hy,e⟩:=h2;rw [beq_iff_eq] at e;exact e ▸ hy
    · rintro ⟨h1,h2⟩;obtain ⟨hc,-,hbc⟩:=raL_lt h1;refine ⟨hc,?_⟩;have hat:bs[c]?=Option.some (bs[c]'hc):=List.getElem?_eq_getElem hc;rw [nxF_mem hat] at hbc;rw [h2,tosOf_at hat,Bool.true_and];unfold hasTo;rw [List.any_eq_true];exact ⟨_,hbc.2,by simp⟩
  rw [Bool.eq_iff_iff];unfold rfB frB ledR;rw [Bool.and_eq_true,List.any_eq_true,List.any_eq_true];constructor
  · rintro ⟨⟨c,hc,h1⟩,h2⟩;obtain ⟨h3,h4⟩:=(key c).1 ⟨List.mem_range.1 hc,h1⟩;refine ⟨c,h3,?_⟩;obtain ⟨-,hrc,hbc⟩:=raL_lt h3;unfold upB;rw [← h.dm_near ha hb (by rw [qO];exact reach_on (by omega) hrc hbc),h4,h2];rfl
  · rintro ⟨c,h3,h1⟩;unfold upB at h1;rw [Bool.and_eq_true] at h1;obtain ⟨-,hrc,hbc⟩:=raL_lt h3;(rw [← h.dm_near ha hb (by rw [qO];exact reach_on (by omega) hrc hbc)] at h1);obtain ⟨h5,h6⟩:=(key c).2 ⟨h3,h1.1⟩;exact ⟨⟨c,List.mem_range.2 h5,h6⟩,h1.2⟩
theorem NearB.fr_all {ord:Nat→Nat} (h:NearB bs (nearD bs) ord) {a:Nat} (ha:a<bs.length):rfL bs bs.length a=frL bs bs.length a:=by
  unfold rfL frL;exact List.filter_congr fun b hb=>by rw [h.fr_eq ha (List.mem_range.1 hb)]
end Go.Proofs.Ytfoggldjjnabcaa

namespace Go.Proofs.Ytfoggldjjnabcaa
set_option linter.unusedVariables false
variable {f:FunD}
def DBl (bs:List BlkD) (a b:Nat):Prop:=a<bs.length∧b<bs.length∧dmB bs a b=true
def ordO (bs:List BlkD) (b:Nat):Nat:=(qK bs).idxOf b
theorem ord_at {bs:List BlkD} {b:Nat} (h:qE bs b=true):(qK bs)[ordO bs b]?=some b:=by
  have hm:=orderF_mem.2 h;unfold ordO;have hl:=List.idxOf_lt_length_of_mem hm;rw [List.getElem?_eq_getElem hl,List.getElem_idxOf hl]
theorem ord_of {bs:List BlkD} {i b:Nat} (h:(qK bs)[i]?=some b):ordO bs b=i:=by
  have hl:=(List.getElem?_eq_some_iff.1 h);obtain ⟨h1,h2⟩:=hl;have hm:b∈qK bs:=h2 ▸ List.getElem_mem h1;have h3:=List.idxOf_lt_length_of_mem hm;(have h4:(qK bs)[(qK bs).idxOf b]=(qK bs)[i]:=by rw [List.getElem_idxOf h3,h2]);exact (List.getElem_inj (orderF_nodup bs)).1 h4
theorem dom_of {ord:Nat→Nat} (N:NearB f.blocks (nearD f.blocks) ord) (hn:0<f.blocks.length) (hre:∀ b,b<f.blocks.length→qE f.blocks b=true) (h0:qF f.blocks 0=[]) :
    DomA f.blocks.length (EdP f) (DBl f.blocks) (fun b=>(nearD f.blocks b).toNat) (ordO f.blocks):=by
  (have hfr:∀ b,b<f.blocks.length→fromB f.blocks 0 (-1) b=true:=fun b hb=>by rw [qO];exact hre b hb);have hsome:∀ b,b<f.blocks.length→b≠0→∃ a,a<f.blocks.length∧(nearD f.blocks b).toNat=a∧a≠b∧dmB f.blocks a b=true∧∀ c,c<f.blocks.length→c≠b→dmB f.blocks c b=true→dmB f.blocks c a=true:=fun b hb hb0=>by
    obtain ⟨a,h1,h2,h3,h4,h5⟩:=N.some b hb (hfr b hb) hb0;exact ⟨a,h1,by rw [h2];rfl,h3,h4,h5⟩
  have hedge:∀ p b,EdP f p b→p<f.blocks.length∧b<f.blocks.length∧b≠0:=fun p b h=>by
    obtain ⟨hb,hp⟩:=h;obtain ⟨x,hx,-⟩:=aheadL_iff.1 hp;exact ⟨(List.getElem?_eq_some_iff.1 hx).1,hb,fun e=>by subst e;have hp2:(p:Int)∈qF f.blocks 0:=hp;rw [h0] at hp2;cases hp2⟩
  refine ⟨fun a b h=>⟨h.1,h.2.1⟩,fun b hb=>⟨hb,hb,N.self b hb (hfr b hb)⟩,fun a b c h k=>⟨h.1,k.2.1,N.trans a b c h.2.2 k.2.2⟩,fun a b h k=>?_,fun b hb=>⟨hn,hb,N.first b hb (hfr b hb)⟩,fun b hb hb0=>?_,fun a b hb hb0 h hne=>?_,fun b hb hb0=>?_,fun b hb hb0=>?_,hedge,fun a p b he h hne=>?_⟩
  · have h1:=N.ord a b h.1 h.2.1 h.2.2;have h2:=N.ord b a k.1 k.2.1 k.2.2;exact h1.2 (by omega)
  · obtain ⟨a,h1,h2,h3,h4,-⟩:=hsome b hb hb0;simp only [h2];exact ⟨⟨h1,hb,h4⟩,h3⟩
  · obtain ⟨c,h1,h2,h3,h4,h5⟩:=hsome b hb hb0;simp only [h2];exact ⟨h.1,h1,h5 a h.1 hne h.2.2⟩
  · obtain ⟨a,h1,h2,h3,h4,-⟩:=hsome b hb hb0;simp only [h2];have hi:=ord_at (hre b hb);have hm:=orderF_dm hi a h4;obtain ⟨j,hj,he⟩:=List.mem_iff_getElem.1 hm;(have hj':j<ordO f.blocks b+1:=by rw [List.length_take] at hj;omega);rw [List.getElem_take] at he;(have hja:(qK f.blocks)[j]?=some a:=by rw [List.getElem?_eq_getElem (by rw [List.length_take] at hj;omega),he]);have ho:=ord_of hja
    rcases Nat.lt_or_ge (ordO f.blocks a) (ordO f.blocks b) with h | h
    · exact h
    · exfalso;(have:ordO f.blocks a=ordO f.blocks b:=by omega);rw [← this,ord_at (hre a h1)] at hi;injection hi with hi;exact h3 hi
  · have hi:=ord_at (hre b hb);have hpos:0<ordO f.blocks b:=by
      rcases Nat.eq_zero_or_pos (ordO f.blocks b) with h | h
      · exfalso;have hm:=orderF_dm hi 0 (N.first b hb (hfr b hb));rw [h] at hm hi;obtain ⟨j,hj,he⟩:=List.mem_iff_getElem.1 hm;(have hj':j=0:=by rw [List.length_take] at hj;omega);subst hj';rw [List.getElem_take] at he;have:=(List.getElem?_eq_some_iff.1 hi).2;rw [he] at this
        exact hb0 this.symm
      · exact h
    obtain ⟨j,y,hj,hy,hx⟩:=orderL_led (qe f.blocks) hi hpos;exact ⟨y,⟨hb,(nxF_iff hb).1 hx⟩,by rw [ord_of hy];exact hj⟩
  · obtain ⟨hp,hb,hb0⟩:=hedge p b he;exact ⟨h.1,hp,near_pred hn h.2.2 hne (hre p hp) ((nxF_iff hb).2 he.2)⟩
theorem fr_tie (hre:∀ b,b<f.blocks.length→qE f.blocks b=true) {x b:Nat} (hx:x<f.blocks.length):b∈rfL f.blocks f.blocks.length x↔FrA (EdP f) (DBl f.blocks) x b:=by
  have hto:∀ c,c<f.blocks.length→(hasTo (b:Int) (tosOf f.blocks c)=true↔(c:Int)∈qF f.blocks b):=fun c hc=>by
    have hk:=List.getElem?_eq_getElem hc;rw [aheadL_iff,tosOf_at hk];unfold hasTo;constructor
    · intro h;obtain ⟨z,hz,e⟩:=List.any_eq_true.1 h;rw [beq_iff_eq] at e;exact ⟨_,hk,e ▸ hz⟩
    · rintro ⟨y,hy,hm⟩;rw [hk] at hy;injection hy with hy;subst hy;exact List.any_eq_true.2 ⟨_,hm,by simp⟩
  unfold rfL;rw [List.mem_filter,List.mem_range];unfold rfB ledR FrA;rw [Bool.and_eq_true,List.any_eq_true,Bool.or_eq_true,decide_eq_true_iff,Bool.not_eq_true'];constructor
  · rintro ⟨hb,⟨c,hc,hcc⟩,hd⟩;rw [List.mem_range] at hc;rw [Bool.and_eq_true] at hcc;refine ⟨fun h=>?_,c,⟨hb,(hto c hc).1 hcc.2⟩,hx,hc,hcc.1⟩;rcases hd with h1 | h1
    · exact h.2 h1
    · rw [h.1.2.2] at h1;cases h1
  · rintro ⟨hn,p,⟨hb,hp⟩,hd⟩;refine ⟨hb,⟨p,List.mem_range.2 hd.2.1,?_⟩,?_⟩
    · rw [Bool.and_eq_true];exact ⟨hd.2.2,(hto p hd.2.1).2 hp⟩
    · by_cases e:x=b
      · exact .inl e
      · right;cases h:dmB f.blocks x b
        · rfl
        · exact absurd ⟨⟨hx,hb,h⟩,e⟩ hn
section
variable {bs:List BlkD}
theorem dm_cases {a b:Nat}:dmB bs a b=true↔qE bs b=true∧(a=b∨fromB bs 0 a b=false):=by
  unfold dmB;rw [qO,Bool.and_eq_true,Bool.or_eq_true,decide_eq_true_iff,Bool.not_eq_true']
theorem av_start (hn:0<bs.length) {a:Nat} (ha:a≠0):fromB bs 0 a 0=true:=(qy hn ha 0).2 .refl
theorem av_step (hn:0<bs.length) {a x y:Nat} (h:fromB bs 0 a x=true) (hy:y∈nxF bs x) (hne:y≠a):fromB bs 0 a y=true:=by
  by_cases ha:a=0
  · subst ha;rw [show fromB bs 0 ((0:Nat):Int) x=false from from_zero bs x] at h;cases h
  · exact (qy hn ha y).2 (((qy hn ha x).1 h).step (nxW_mem.2 ⟨hy,by omega⟩))
theorem dm_up (hn:0<bs.length) {a b:Nat} (h:dmB bs a b=true):qE bs a=true:=by
  obtain ⟨h1,h2⟩:=dm_cases.1 h;rcases h2 with rfl | h2
  · exact h1
  · have hr:=(qd (by omega)).1 h1;have key:∀ x,Reach (nxF bs) 0 x→fromB bs 0 a x=true∨qE bs a=true:=by
      intro x hx
      induction hx with
      | refl =>
        by_cases ha:a=0
        · subst ha;exact .inr ((qd (by omega)).2 .refl)
        · exact .inl (av_start hn ha)
      | @step x y hx hy ih =>
        rcases ih with h | h
        · by_cases e:y=a
          · subst e;exact .inr ((qd (by omega)).2 (hx.step hy))
          · exact .inl (av_step hn h hy e)
        · exact .inr h
    rcases key b hr with h | h
    · rw [h2] at h;cases h
    · exact h
theorem dm_trans (hn:0<bs.length) {a b c:Nat} (h:dmB bs a b=true) (k:dmB bs b c=true):dmB bs a c=true:=by
  obtain ⟨h1,h2⟩:=dm_cases.1 h;obtain ⟨k1,k2⟩:=dm_cases.1 k;refine dm_cases.2 ⟨k1,?_⟩;rcases h2 with rfl | h2
  · exact k2
  · rcases k2 with rfl | k2
    · exact .inr h2
    · right;cases hac:fromB bs 0 a c
      · rfl
      · exfalso
        by_cases ha:a=0
        · subst ha;rw [show fromB bs 0 ((0:Nat):Int) c=false from from_zero bs c] at hac;cases hac
        · have hr:=(qy hn ha c).1 hac;have key:∀ x,Reach (nxW (nxF bs) a) 0 x→fromB bs 0 b x=true∨fromB bs 0 a b=true:=by
            intro x hx
            induction hx with
            | refl =>
              by_cases hb:b=0
              · subst hb;exact .inr (av_start hn ha)
              · exact .inl (av_start hn hb)
            | @step x y hx hy ih =>
              rcases ih with h | h
              · by_cases e:y=b
                · subst e;exact .inr ((qy hn ha y).2 (hx.step hy))
                · exact .inl (av_step hn h (nxW_mem.1 hy).1 e)
              · exact .inr h
          rcases key c hr with h | h
          · rw [k2] at h;cases h
          · rw [h2] at h;cases h
theorem dm_chain (hn:0<bs.length) {a c x:Nat} (h:dmB bs a x=true) (k:dmB bs c x=true):dmB bs a c=true∨dmB bs c a=true:=by
  have hra:=dm_up hn h;have hrc:=dm_up hn k;obtain ⟨h1,h2⟩:=dm_cases.1 h;obtain ⟨k1,k2⟩:=dm_cases.1 k;rcases h2 with rfl | h2
  · exact .inr k
  · rcases k2 with rfl | k2
    · exact .inl h
    · cases hac:fromB bs 0 a c
      · exact .inl (dm_cases.2 ⟨hrc,.inr hac⟩)
      · cases hca:fromB bs 0 c a
        · exact .inr (dm_cases.2 ⟨hra,.inr hca⟩)
        · exfalso;have key:∀ x,Reach (nxF bs) 0 x→fromB bs 0 a x=true∨fromB bs 0 c x=true:=by
            intro x hx
            induction hx with
            | refl =>
              by_cases ha:a=0
              · subst ha;rw [show fromB bs 0 ((0:Nat):Int) c=false from from_zero bs c] at hac;cases hac
              · exact .inl (av_start hn ha)
            | @step x y hx hy ih =>
              rcases ih with h | h
              · by_cases e:y=a
                · subst e;exact .inr hca
                · exact .inl (av_step hn h hy e)
              · by_cases e:y=c
                · subst e;exact .inl hac
                · exact .inr (av_step hn h hy e)
          rcases key x ((qd (by omega)).1 h1) with h | h
          · rw [h2] at h;cases h
          · rw [k2] at h;cases h
theorem dm_zero (hn:0<bs.length) {a:Nat} (h:dmB bs a 0=true):a=0:=by
  rcases (dm_cases.1 h).2 with h2 | h2
  · exact h2
  · by_cases ha:a=0
    · exact ha
    · rw [av_start hn ha] at h2;cases h2
theorem dm_first {b:Nat} (h:qE bs b=true):dmB bs 0 b=true:=dm_cases.2 ⟨h,.inr (from_zero bs b)⟩
theorem dm_ord (hn:0<bs.length) {a b:Nat} (h:dmB bs a b=true):ordO bs a≤ordO bs b∧(ordO bs a=ordO bs b→a=b):=by
  have hra:=dm_up hn h;have hrb:=(dm_cases.1 h).1;have hm:=orderF_dm (ord_at hrb) a h;obtain ⟨j,hj,he⟩:=List.mem_iff_getElem.1 hm;rw [List.getElem_take] at he;rw [List.length_take] at hj;have ho:=ord_of (List.getElem?_eq_some_iff.2 ⟨by omega,he⟩);refine ⟨by omega,fun e=>?_⟩;have h1:=ord_at hra
  rw [e,ord_at hrb] at h1;injection h1 with h1;exact h1.symm
theorem near_there (hn:0<bs.length) {b:Nat} (hb:b<bs.length) (hrb:qE bs b=true) (hb0:b≠0):∃ a,a<bs.length∧a≠b∧dmB bs a b=true∧∀ c,c<bs.length→c≠b→dmB bs c b=true→dmB bs c a=true:=by
  have key:∀ k,k≤bs.length→∃ a,a<bs.length∧a≠b∧dmB bs a b=true∧∀ c,c<k→c≠b→dmB bs c b=true→dmB bs c a=true:=by
    intro k
    induction k with
    | zero=>exact fun _=>⟨0,hn,fun e=>hb0 e.symm,dm_first hrb,fun c hc=>by omega⟩
    | succ k ih =>
      intro hk;obtain ⟨a,h1,h2,h3,h4⟩:=ih (by omega)
      by_cases hd:k≠b∧dmB bs k b=true
      · rcases dm_chain hn hd.2 h3 with h | h
        · exact ⟨a,h1,h2,h3,fun c hc hcb hcd=>by
            by_cases e:c=k
            · subst e;exact h
            · exact h4 c (by omega) hcb hcd⟩
        · exact ⟨k,by omega,hd.1,hd.2,fun c hc hcb hcd=>by
            by_cases e:c=k
            · subst e;exact dm_cases.2 ⟨dm_up hn hd.2,.inl rfl⟩
            · exact dm_trans hn (h4 c (by omega) hcb hcd) h⟩
      · exact ⟨a,h1,h2,h3,fun c hc hcb hcd=>by
          by_cases e:c=k
          · subst e;exact absurd ⟨hcb,hcd⟩ hd
          · exact h4 c (by omega) hcb hcd⟩
  exact key bs.length (Nat.le_refl _)
theorem nearB_of (hn:0<bs.length):NearB bs (nearD bs) (ordO bs):=by
  have his:∀ b a,isNear bs b a=true↔a≠b∧dmB bs a b=true∧∀ c,c<bs.length→c≠b→dmB bs c b=true→dmB bs c a=true:=fun b a=>by
    unfold isNear;rw [Bool.and_eq_true,Bool.and_eq_true,decide_eq_true_iff,List.all_eq_true];constructor
    · rintro ⟨⟨h1,h2⟩,h3⟩;refine ⟨h1,h2,fun c hc hcb hcd=>?_⟩;have:=h3 c (List.mem_range.2 hc);simpa [hcb,hcd] using this
    · rintro ⟨h1,h2,h3⟩;refine ⟨⟨h1,h2⟩,fun c hc=>?_⟩;rw [List.mem_range] at hc
      by_cases hcb:c=b
      · simp [hcb]
      · cases hcd:dmB bs c b
        · simp
        · simp [hcb,h3 c hc hcb hcd]
  refine ⟨fun b hb h=>nearK_none _ fun a ha=>?_,fun b hb h hb0=>?_,fun a b ha hb h=>dm_ord hn h,fun a ha h=>dm_cases.2 ⟨by rwa [qO] at h,.inl rfl⟩,fun a b c h k=>dm_trans hn h k,fun b hb h=>dm_first (by rwa [qO] at h),fun a b ha hb h=>by rw [qO];exact dm_up hn h⟩
  · cases hi:isNear bs b a
    · rfl
    · exfalso;obtain ⟨h1,h2,-⟩:=(his b a).1 hi;rcases h with h | h
      · rw [qO] at h;rw [(dm_cases.1 h2).1] at h;cases h
      · subst h;exact h1 (dm_zero hn h2)
  · rw [qO] at h;obtain ⟨a,h1,h2,h3,h4⟩:=near_there hn hb h hb0;refine ⟨a,h1,nearK_of ((his b a).2 ⟨h2,h3,h4⟩) (fun c hc hi=>?_) _ h1 (Nat.le_refl _),h2,h3,h4⟩;obtain ⟨k1,k2,k3⟩:=(his b c).1 hi;have e1:=dm_ord hn (h4 c hc k1 k2);have e2:=dm_ord hn (k3 a h1 h2 h3);exact e1.2 (by omega)
end
theorem cl_tie (hre:∀ b,b<f.blocks.length→qE f.blocks b=true) (r b:Nat) :
    clC (rfL f.blocks f.blocks.length) (fun b=>decide (b=0) || mkB f.blocks b r) f.blocks.length b=true↔ClA (EdP f) (DBl f.blocks) (mkP f r) b :=
  clC_clA (fun b x hx=>rfL_lt hx) (fun x b hx=>fr_tie hre hx) (fun x hx=>by unfold mkP;rw [Bool.or_eq_true,decide_eq_true_iff]) (fun x b h=>by obtain ⟨-,p,-,hd⟩:=h;exact hd.1) b
open Classical in
noncomputable def plnOf (f:FunD):SsP:=⟨f,fun b r=>decide (Want f.blocks false b r),fun b r=>clC (rfL f.blocks f.blocks.length) (fun b=>decide (b=0) || mkB f.blocks b r) f.blocks.length b,fun b=>(nearD f.blocks b).toNat⟩
theorem plnW {b r:Nat}:(plnOf f).W b r=true↔Want f.blocks false b r:=@decide_eq_true_iff _ (Classical.propDecidable _)
theorem ahead_zero {m:List FunD} (F:FunOk m f):qF f.blocks 0=[]:=by
  rw [List.eq_nil_iff_forall_not_mem];intro z hz;have h1:=qu f.blocks 0 0 z hz;(have hz2:z=((z.toNat:Nat):Int):=by omega);rw [hz2] at hz;obtain ⟨x,hx,hm⟩:=(aheadL_iff (t:=0)).1 hz;have:=(F.tos x (List.mem_of_getElem? hx) _ hm).1;omega
theorem ssOk_of {m:List FunD} (F:FunOk m f) (hre:∀ b,b<f.blocks.length→qE f.blocks b=true) (hp:∀ b∈f.blocks,b.phis=[]):SsOk m (plnOf f) (DBl f.blocks) (ordO f.blocks):=by
  have hn:0<f.blocks.length:=F.nb.1;exact ⟨F,hp,dom_of (nearB_of hn) hn hre (ahead_zero F),fun r b hb=>cl_tie hre r b,fun b r hb hr=>plnW⟩
theorem ssOk_trim {m:List FunD} {f:FunD} (h:funE m f=0) (hp:∀ b∈f.blocks,b.phis=[]):SsOk m (plnOf (trimF f)) (DBl (trimF f).blocks) (ordO (trimF f).blocks):=by
  refine ssOk_of (fun_ok (funE_trim h)) (fun b hb=>reach_all hb) fun c hc=>?_;obtain ⟨j,hj⟩:=List.mem_iff_getElem?.1 hc;obtain ⟨i,b,hb,-,-,rfl⟩:=blkT_all hj;show b.phis.map _=[];rw [hp b (List.mem_of_getElem? hb)];rfl
end Go.Proofs.Ytfoggldjjnabcaa

namespace Go.Proofs.Ytfoggldjjnabcaa
open Go.ChangeShapes Go.WideShapes Go.RowKit Go.Deep
set_option linter.unusedVariables false
def zIns (P:SsP) (r:Nat):InsD:=⟨1,(zrN P r:Int),[],0,0⟩
def preL (P:SsP) (b:Nat):List InsD:=if b=0 then (zrL P).map (zIns P) else []
noncomputable def bIns (P:SsP) (b i:Nat) (x:InsD):InsD:=⟨x.op,if 0≤x.dst then (dsN P b i:Int) else -1,x.args.map fun a=>((vr P a.toNat b i:Nat):Int),x.imm,x.fn⟩
noncomputable def bPhi (P:SsP) (b r:Nat):PhiD:=⟨(phN P b r:Int),(qF P.f.blocks b).map fun p=>((vr P r p.toNat (insB P.f p.toNat).length:Nat):Int)⟩
noncomputable def bTerm (P:SsP) (b:Nat):TermD:=⟨(blkAt P.f b).term.kind,if 0≤(blkAt P.f b).term.arg then ((vr P (blkAt P.f b).term.arg.toNat b (insB P.f b).length:Nat):Int) else -1,(blkAt P.f b).term.to⟩
noncomputable def bBlk (P:SsP) (b:Nat):BlkD:=⟨(phL P b).map (bPhi P b),preL P b++(insB P.f b).mapIdx (bIns P b),bTerm P b⟩
noncomputable def zA (P:SsP):FunD:=⟨P.f.params,P.f.result,(oldL P).map fun r=>P.f.regs.getD r 0,(List.range P.f.blocks.length).map (bBlk P)⟩
theorem build_blk {P:SsP} {b:Nat} (hb:b<P.f.blocks.length):(zA P).blocks[b]?=some (bBlk P b):=by
  show ((List.range P.f.blocks.length).map (bBlk P))[b]?=_;rw [List.getElem?_map,List.getElem?_range hb];rfl
end Go.Proofs.Ytfoggldjjnabcaa

namespace Go.Proofs.Ytfoggldjjnabcaa
set_option linter.unusedVariables false
variable {m:List FunD} {P:SsP} {D:Nat→Nat→Prop} {ord:Nat→Nat}
theorem SsOk.ask_arg (h:SsOk m P D ord) {b i r:Nat} {k:BlkD} {x:InsD} (hb:P.f.blocks[b]?=some k) (hx:k.ins[i]?=some x) (hr:r<P.f.regs.length) (ha:(r:Int)∈x.args):VerZ P r b i (vr P r b i) :=
  h.vrZ hr hb (Nat.le_of_lt (List.getElem?_eq_some_iff.1 hx).1) ((wantAt_step hb hx).2 (.inl ha))
theorem SsOk.ask_term (h:SsOk m P D ord) {b r:Nat} {k:BlkD} (hb:P.f.blocks[b]?=some k) (hr:r<P.f.regs.length) (ha:k.term.arg=(r:Int)):VerZ P r b k.ins.length (vr P r b k.ins.length) :=
  h.vrZ hr hb (Nat.le_refl _) ((wantAt_end hb).2 (.inl ha))
theorem SsOk.ask_phi (h:SsOk m P D ord) {b p r:Nat} {k:BlkD} (hk:P.f.blocks[p]?=some k) (hb:b<P.f.blocks.length) (hp:(p:Int)∈qF P.f.blocks b) (hr:r∈phL P b):VerZ P r p k.ins.length (vr P r p k.ins.length):=by
  obtain ⟨h1,h2,-⟩:=mem_phL.1 hr;exact h.vrZ h1 hk (Nat.le_refl _) ((wantAt_end hk).2 (.inr (.back hb hp ((h.want b r hb h1).1 h2))))
end Go.Proofs.Ytfoggldjjnabcaa

namespace Go.Proofs.Ytfoggldjjnabcaa
open Go.RowKit
set_option linter.unusedVariables false
set_option linter.unusedSimpArgs false
section
variable {bs bs':List BlkD} (h:bs'.map (fun b=>b.term.to)=bs.map (fun b=>b.term.to))
include h
theorem like_len:bs'.length=bs.length:=by have:=congrArg List.length h;simpa using this
theorem like_nx:nxF bs'=nxF bs:=by
  (funext a);(have h1:(bs'[a]?).map (fun b=>b.term.to)=(bs[a]?).map (fun b=>b.term.to):=by rw [← List.getElem?_map,← List.getElem?_map,h]);unfold nxF;rw [like_len h];cases h2:bs'[a]? with
  | none =>
    rw [h2] at h1;cases h3:bs[a]? with
    | none=>rfl
    | some b=>rw [h3] at h1;cases h1
  | some b' =>
    rw [h2] at h1;cases h3:bs[a]? with
    | none=>rw [h3] at h1;cases h1
    | some b=>rw [h3] at h1;simp only [Option.map_some,Option.some.injEq] at h1;show nextN _ b'.term.to=nextN _ b.term.to;rw [h1]
theorem like_reach (x:Nat):qE bs' x=qE bs x:=by unfold qE;rw [like_nx h,like_len h]
theorem like_order:qK bs'=qK bs:=by unfold qK;rw [like_nx h,like_len h]
theorem like_from:fromB bs'=fromB bs:=by funext b w x;unfold fromB;rw [like_nx h,like_len h]
theorem like_dm:dmB bs'=dmB bs:=by funext a b;unfold dmB;rw [like_from h]
theorem like_isNear:isNear bs'=isNear bs:=by funext b a;unfold isNear;rw [like_dm h,like_len h]
theorem like_nearK (b:Nat):∀ k,nearK bs' b k=nearK bs b k
  | 0=>rfl
  | k+1=>by unfold nearK;rw [like_isNear h,like_nearK b k]
theorem like_near:nearD bs'=nearD bs:=by funext b;unfold nearD;rw [like_nearK h,like_len h]
theorem like_ra:raL bs'=raL bs:=by funext k b;unfold raL;rw [like_nx h];congr 1;funext c;rw [like_reach h]
theorem like_up:upB bs'=upB bs:=by funext b y a;unfold upB;rw [like_dm h]
theorem like_fr:frL bs'=frL bs:=by
  (funext m a);unfold frL;(congr 1);(funext b);unfold frB;rw [like_ra h,like_up h,like_near h,like_len h]
end
theorem aheadK_like:∀ {bs bs':List BlkD},bs'.map (fun b=>b.term.to)=bs.map (fun b=>b.term.to)→∀ i z,z7 bs' i z=z7 bs i z
  | [],[],_,_,_=>rfl
  | [],_::_,h,_,_=>by cases h
  | _::_,[],h,_,_=>by cases h
  | b::r,b'::r',h,i,z=>by
    simp only [List.map_cons,List.cons.injEq] at h;unfold z7;rw [h.1,aheadK_like h.2]
theorem ClG.imp {fr fr':Nat→List Nat} {mk mk':Nat→Bool} {n x:Nat} (hf:∀ a,a<n→∀ b∈fr a,b∈fr' a) (hm:∀ a,a<n→mk a=true→mk' a=true) (h:ClG fr mk n x):ClG fr' mk' n x:=by
  induction h with
  | of hx h1 h2=>exact .of hx (hm _ hx h1) (hf _ hx _ h2)
  | on hx _ h2 ih=>exact .on hx ih (hf _ hx _ h2)
def zF (P:SsP):FunD:=⟨P.f.params,P.f.result,P.f.regs,P.f.blocks.set 0 ⟨(blkAt P.f 0).phis,(zrL P).map zI++(blkAt P.f 0).ins,(blkAt P.f 0).term⟩⟩
variable {P:SsP}
theorem zF_len:(zF P).blocks.length=P.f.blocks.length:=by unfold zF;simp
theorem zF_else {b:Nat} (h:b≠0):(zF P).blocks[b]?=P.f.blocks[b]?:=by unfold zF;simp [List.getElem?_set,Ne.symm h]
theorem zF_zero (h:0<P.f.blocks.length):(zF P).blocks[0]?=some ⟨(blkAt P.f 0).phis,(zrL P).map zI++(blkAt P.f 0).ins,(blkAt P.f 0).term⟩:=by unfold zF;simp [h]
theorem zF_blk {b:Nat} (h:b≠0):blkAt (zF P) b=blkAt P.f b:=by unfold blkAt;rw [List.getD_eq_getElem?_getD,List.getD_eq_getElem?_getD,zF_else h]
theorem zF_blk0 (h:0<P.f.blocks.length):blkAt (zF P) 0=⟨(blkAt P.f 0).phis,(zrL P).map zI++(blkAt P.f 0).ins,(blkAt P.f 0).term⟩:=by
  show (zF P).blocks.getD 0 default=_;rw [List.getD_eq_getElem?_getD,zF_zero h];rfl
def zB (P:SsP) (b:Nat):List InsD:=if b=0 then (zrL P).map zI else []
def zN (P:SsP) (b:Nat):Nat:=if b=0 then (zrL P).length else 0
theorem zB_len (b:Nat):(zB P b).length=zN P b:=by unfold zB zN;split <;> simp
theorem zF_ins (h:0<P.f.blocks.length) (b:Nat):insB (zF P) b=zB P b++insB P.f b:=by
  by_cases e:b=0
  · subst e;unfold insB zB;rw [zF_blk0 h,if_pos rfl]
  · unfold insB zB;rw [zF_blk e,if_neg e];rfl
theorem zF_term (h:0<P.f.blocks.length) (b:Nat):(blkAt (zF P) b).term=(blkAt P.f b).term:=by
  by_cases e:b=0
  · subst e;rw [zF_blk0 h]
  · rw [zF_blk e]
theorem zF_tos (h:0<P.f.blocks.length):(zF P).blocks.map (fun b=>b.term.to)=P.f.blocks.map (fun b=>b.term.to):=by
  apply List.ext_getElem?;intro b;rw [List.getElem?_map,List.getElem?_map]
  by_cases e:b=0
  · subst e;rw [zF_zero h];have hb:P.f.blocks[0]?=some P.f.blocks[0]:=List.getElem?_eq_getElem h;have:blkAt P.f 0=P.f.blocks[0]:=qv hb;rw [hb,this];rfl
  · rw [zF_else e]
theorem dsL_zI (l:List Nat):dsL (l.map zI)=l:=by
  unfold dsL;rw [List.filterMap_map];have e:((fun x:InsD=>if 0≤x.dst then some x.dst.toNat else none) ∘ zI)=some:=by
    (funext r);show (if (0:Int)≤(r:Int) then some ((r:Int)).toNat else none)=some r;rw [if_pos (by omega),Int.toNat_natCast]
  rw [e,List.filterMap_some]
theorem dsL_append (a b:List InsD):dsL (a++b)=dsL a++dsL b:=by unfold dsL;rw [List.filterMap_append]
variable {m:List FunD} {D:Nat→Nat→Prop} {ord:Nat→Nat}
theorem SsOk.no_first (h:SsOk m P D ord) (h0:0<P.f.blocks.length):phL P 0=[]:=by
  rw [List.eq_nil_iff_forall_not_mem];intro r hr;obtain ⟨h1,h2,h3⟩:=mem_phL.1 hr;have hc:=(h.cl r 0 h0).1 h3;cases hc with
  | of _ hf=>obtain ⟨-,p,he,-⟩:=hf;exact (h.dom.edge p 0 he).2.2 rfl
  | more _ hf=>obtain ⟨-,p,he,-⟩:=hf;exact (h.dom.edge p 0 he).2.2 rfl
theorem SsOk.flat (h:SsOk m P D ord) (h0:0<P.f.blocks.length):∀ b,(List.range (b+1)).flatMap (oldO (zF P) (phL P))=zrL P++(List.range (b+1)).flatMap (oldB P)
  | 0=>by
    rw [Nat.zero_add,List.range_one,List.flatMap_singleton,List.flatMap_singleton];unfold oldO oldB;rw [h.no_first h0,zF_ins h0,dsL_append];unfold zB;rw [if_pos rfl,dsL_zI];simp
  | b+1=>by
    rw [List.range_succ,List.flatMap_append,List.flatMap_append,h.flat h0 b,List.flatMap_singleton,List.flatMap_singleton];have:oldO (zF P) (phL P) (b+1)=oldB P (b+1):=by
      unfold oldO oldB;rw [zF_ins h0];unfold zB;rw [if_neg (by omega)];rfl
    rw [this,List.append_assoc]
theorem SsOk.bs (h:SsOk m P D ord) (h0:0<P.f.blocks.length) {b:Nat} (hb:b≠0):bsO (zF P) (phL P) b=baseN P b:=by
  obtain ⟨c,rfl⟩:∃ c,b=c+1:=⟨b - 1,by omega⟩;unfold bsO baseN;rw [h.flat h0,List.length_append];show P.f.params.toNat+_=_;omega
theorem bs_zero:bsO (zF P) (phL P) 0=P.f.params.toNat:=by unfold bsO;simp;rfl
theorem SsOk.olds (h:SsOk m P D ord) (h0:0<P.f.blocks.length):oldsO (zF P) (phL P) (zF P).blocks.length=oldL P:=by
  obtain ⟨c,hc⟩:∃ c,P.f.blocks.length=c+1:=⟨P.f.blocks.length - 1,by omega⟩;unfold oldsO oldL;rw [zF_len,hc,h.flat h0,List.append_assoc];rfl
theorem SsOk.num (h:SsOk m P D ord) (h0:0<P.f.blocks.length) {b k:Nat} (hk:k≤(insB P.f b).length):bsO (zF P) (phL P) b+(phL P b).length+(dsL ((insB (zF P) b).take (zN P b+k))).length=dsN P b k:=by
  (have ht:(insB (zF P) b).take (zN P b+k)=zB P b++(insB P.f b).take k:=by rw [zF_ins h0,← zB_len,List.take_length_add_append]);rw [ht,dsL_append,List.length_append];unfold dsN
  by_cases e:b=0
  · subst e;rw [bs_zero,h.no_first h0];unfold zB baseN;rw [if_pos rfl,dsL_zI];simp;omega
  · rw [h.bs h0 e];unfold zB;rw [if_neg e];simp [dsL]
theorem SsOk.zero_num (h:SsOk m P D ord) (h0:0<P.f.blocks.length) {j r:Nat} (hj:(zrL P)[j]?=some r):bsO (zF P) (phL P) 0+(phL P 0).length+(dsL ((insB (zF P) 0).take j)).length=zrN P r:=by
  have hjl:=(List.getElem?_eq_some_iff.1 hj).1;have ht:(insB (zF P) 0).take j=((zrL P).take j).map zI:=by
    rw [zF_ins h0];unfold zB;rw [if_pos rfl,List.take_append_of_le_length (by simp;omega),List.map_take]
  rw [ht,dsL_zI,bs_zero,h.no_first h0];unfold zrN;have hnd:(zrL P).Nodup:=List.nodup_range.filter _;have hi:(zrL P).idxOf r=j:=by
    obtain ⟨hl,he⟩:=List.getElem?_eq_some_iff.1 hj;rw [← he];exact hnd.idxOf_getElem j hl
  rw [hi];simp;omega
end Go.Proofs.Ytfoggldjjnabcaa
