/- The early ones, and the nearest, as they are reckoned place by place, in mathematics. No condition. -/
import Derived.Test.YtfoggldjjnabcaaGreatDoorDmTJ
import Derived.Test.YtfoggldjjnabcaaGreatDoorInfBJ
import Derived.Deep.AppendLies
import Derived.Deep.OwnRows
import Derived.Deep.DeepCutAuto
import Derived.Test.YtfoggldjjnabcaaGreatDoorAheadGJ
import Derived.Test.YtfoggldjjnabcaaGreatDoorInsBJ
namespace Go.Proofs.YtfoggldjjnabcaaGreatDoor
set_option linter.unusedVariables false
structure GrvI (par:Nat→Nat) (k L:Nat) (early least:Nat→Nat) (above:Nat→Int):Prop where
  lo:∀ v,v<L→v<k→above v=-1∧least v=v
  hi:∀ v,L≤v→v<k→∃ a:Nat,above v=(a:Int)∧a<v∧AncP par a v∧(∀ y,AncP par y v→a<y→L≤y)∧AncP par (least v) v∧a<least v∧∀ y,AncP par y v→a<y→early (least v)≤early y
def BestP (par:Nat→Nat) (L:Nat) (early:Nat→Nat) (v x:Nat):Prop:=(v<L∧x=v)∨(L≤v∧AncP par x v∧L≤x∧∀ y,AncP par y v→L≤y→early x≤early y)
variable {n k L:Nat} {E:Nat→Nat→Prop} {par early least:Nat→Nat} {above:Nat→Int}
theorem GrvI.start (par:Nat→Nat) (k:Nat) (early:Nat→Nat):GrvI par k k early (fun v=>v) (fun _=>-1) :=
  ⟨fun _ _ _=>⟨rfl,rfl⟩,fun v h1 h2=>by omega⟩
theorem GrvI.least_lt (T:TreeP k E par) (G:GrvI par k L early least above) {v:Nat} (hv:v<k):least v<k:=by
  by_cases h:v<L
  · rw [(G.lo v h hv).2];exact hv
  · obtain ⟨a,_,_,_,_,h5,_⟩:=G.hi v (by omega) hv;have:=T.anc_le h5 hv;omega
theorem GrvI.best (G:GrvI par k L early least above) {v:Nat} (hv:v<k) (hr:above v<(L:Int)):BestP par L early v (least v):=by
  by_cases h:v<L
  · exact .inl ⟨h,(G.lo v h hv).2⟩
  · obtain ⟨a,h1,h2,h3,h4,h5,h6,h7⟩:=G.hi v (by omega) hv;exact .inr ⟨by omega,h5,h4 _ h5 h6,fun y hy hL=>h7 y hy (by omega)⟩
theorem GrvI.hang (T:TreeP k E par) (G:GrvI par k L early least above) {p q:Nat} {r:Int} (hp:L≤p) (hpk:p<k) (hq:above p=(q:Int)) (hqL:L≤q) (hr:above q=r) :
    GrvI par k L early (updF least p (if early (least q)<early (least p) then least q else least p)) (updF above p r):=by
  refine ⟨fun v h1 h2=>?_,fun v h1 h2=>?_⟩
  · rw [q9 _ _ (by omega),q9 _ _ (by omega)];exact G.lo v h1 h2
  · by_cases e:v=p
    · subst e;rw [qB,qB];obtain ⟨a,a1,a2,a3,a4,a5,a6,a7⟩:=G.hi v h1 h2;(obtain rfl:a=q:=by omega);obtain ⟨b,b1,b2,b3,b4,b5,b6,b7⟩:=G.hi a hqL (by omega);refine ⟨b,by omega,by omega,b3.trans a3,fun y hy hby=>?_,?_,?_,fun y hy hby=>?_⟩
      · by_cases hay:a<y
        · exact a4 y hy hay
        · exact b4 y (T.both hy a3 h2 (by omega)) hby
      · split
        · exact b5.trans a3
        · exact a5
      · split <;> omega
      · by_cases hay:a<y
        · have:=a7 y hy hay
          split <;> omega
        · have:=b7 y (T.both hy a3 h2 (by omega)) hby
          split <;> omega
    · rw [q9 _ _ e,q9 _ _ e];exact G.hi v h1 h2
theorem GrvI.congr {early':Nat→Nat} (G:GrvI par k L early least above) (he:∀ v,L≤v→early' v=early v):GrvI par k L early' least above:=by
  refine ⟨G.lo,fun v h1 h2=>?_⟩;obtain ⟨a,a1,a2,a3,a4,a5,a6,a7⟩:=G.hi v h1 h2;refine ⟨a,a1,a2,a3,a4,a5,a6,fun y hy hay=>?_⟩;rw [he _ (a4 _ a5 a6),he _ (a4 y hy hay)];exact a7 y hy hay
theorem GrvI.link (T:TreeP k E par) {P:Nat} (G:GrvI par k (P+1) early least above) (h0:0<P) (hP:P<k):GrvI par k P early least (updF above P (par P:Int)):=by
  refine ⟨fun v h1 h2=>?_,fun v h1 h2=>?_⟩
  · rw [q9 _ _ (by omega)];exact G.lo v (by omega) h2
  · by_cases e:v=P
    · subst e;rw [qB,(G.lo v (by omega) h2).2];have hp:=T.par_lt v h0 hP;have key:∀ y,AncP par y v→par v<y→y=v:=fun y hy hlt=>by
        cases hy with
        | refl=>rfl
        | step _ hy=>have:=T.anc_le hy (by omega);omega
      exact ⟨par v,rfl,hp,.step h0 .refl,fun y hy hlt=>by rw [key y hy hlt];exact Nat.le_refl _,.refl,hp,fun y hy hlt=>by rw [key y hy hlt];exact Nat.le_refl _⟩
    · rw [q9 _ _ e];obtain ⟨a,a1,a2,a3,a4,a5,a6,a7⟩:=G.hi v (by omega) h2;exact ⟨a,a1,a2,a3,fun y hy hay=>by have:=a4 y hy hay;omega,a5,a6,a7⟩
structure PredP (par early:Nat→Nat) (P:Nat) (l:List Nat) (e:Nat):Prop where
  here:∀ u∈l,u≤P→e≤u
  chain:∀ u∈l,∀ x,AncP par x u→P<x→e≤early x
  found:e=P∨(∃ u,u∈l∧u<P∧e=u)∨∃ u x,u∈l∧AncP par x u∧P<x∧e=early x
theorem PredP.start (par early:Nat→Nat) (P:Nat):PredP par early P [] P:=⟨fun u h=>(by cases h),fun u h=>(by cases h),.inl rfl⟩
theorem PredP.step {P e u b:Nat} {l:List Nat} (T:TreeP k E par) (h:PredP par early P l e) (hf:∀ v,v<P→early v=v) (hu:u<k) (hb:BestP par (P+1) (updF early P e) u b) (heP:e≤P) :
    PredP par early P (l++[u]) (min e (updF early P e b)):=by
  (have hmem:∀ {x:Nat},x∈l++[u]→x∈l∨x=u:=fun hx=>by simpa using hx);rcases hb with ⟨h1,rfl⟩ | ⟨h1,h2,h3,h4⟩
  · by_cases hbP:b=P
    · subst hbP;rw [qB,Nat.min_self];refine ⟨fun x hx hxP=>?_,fun x hx y hy hPy=>?_,?_⟩
      · rcases hmem hx with hx | rfl
        · exact h.here x hx hxP
        · exact heP
      · rcases hmem hx with hx | rfl
        · exact h.chain x hx y hy hPy
        · have:=T.anc_le hy hu;omega
      · rcases h.found with h5 | ⟨x,h5,h6⟩ | ⟨x,y,h5,h6⟩
        · exact .inl h5
        · exact .inr (.inl ⟨x,by simp [h5],h6⟩)
        · exact .inr (.inr ⟨x,y,by simp [h5],h6⟩)
    · (have hbl:b<P:=by omega);rw [q9 _ _ hbP,hf b hbl];refine ⟨fun x hx hxP=>?_,fun x hx y hy hPy=>?_,?_⟩
      · rcases hmem hx with hx | rfl
        · have:=h.here x hx hxP;omega
        · omega
      · rcases hmem hx with hx | rfl
        · have:=h.chain x hx y hy hPy;omega
        · have:=T.anc_le hy hu;omega
      · by_cases hle:e≤b
        · rw [Nat.min_eq_left hle];rcases h.found with h5 | ⟨x,h5,h6⟩ | ⟨x,y,h5,h6⟩
          · exact .inl h5
          · exact .inr (.inl ⟨x,by simp [h5],h6⟩)
          · exact .inr (.inr ⟨x,y,by simp [h5],h6⟩)
        · rw [Nat.min_eq_right (by omega)];exact .inr (.inl ⟨b,by simp,hbl,rfl⟩)
  · rw [q9 _ _ (by omega)];have hby:∀ y,AncP par y u→P<y→early b≤early y:=fun y hy hPy=>by
      have:=h4 y hy (by omega)
      rwa [q9 _ _ (by omega),q9 _ _ (by omega)] at this
    refine ⟨fun x hx hxP=>?_,fun x hx y hy hPy=>?_,?_⟩
    · rcases hmem hx with hx | rfl
      · have:=h.here x hx hxP;omega
      · omega
    · rcases hmem hx with hx | rfl
      · have:=h.chain x hx y hy hPy;omega
      · have:=hby y hy hPy;omega
    · by_cases hle:e≤early b
      · rw [Nat.min_eq_left hle];rcases h.found with h5 | ⟨x,h5,h6⟩ | ⟨x,y,h5,h6⟩
        · exact .inl h5
        · exact .inr (.inl ⟨x,by simp [h5],h6⟩)
        · exact .inr (.inr ⟨x,y,by simp [h5],h6⟩)
      · rw [Nat.min_eq_right (by omega)];exact .inr (.inr ⟨u,b,by simp,h2,by omega,rfl⟩)
theorem PredP.done {P e:Nat} {l:List Nat} (T:TreeP k E par) (h:PredP par early P l e) (hl:∀ u,u∈l↔E u P) (S:EarlyP (P+1) k E par early) (h0:0<P) (hP:P<k):e<P∧EarlyP P k E par (updF early P e):=by
  have hp:=T.par_lt P h0 hP;have he:=h.here (par P) ((hl _).2 (T.par_e P h0 hP)) (by omega);refine ⟨by omega,⟨fun w u hw hE hu=>?_,fun w u x hw hE hx hwx=>?_,fun w hw hwk=>?_,h0⟩⟩
  · by_cases e1:w=P
    · subst e1;rw [qB];exact h.here u ((hl u).2 hE) hu
    · rw [q9 _ _ e1];exact S.here w u (by omega) hE hu
  · rw [q9 early e (show x≠P by omega)]
    by_cases e1:w=P
    · subst e1;rw [qB];exact h.chain u ((hl u).2 hE) x hx hwx
    · rw [q9 _ _ e1];exact S.chain w u x (by omega) hE hx hwx
  · by_cases e1:w=P
    · subst e1;rw [qB];rcases h.found with h5 | ⟨x,h5,h6⟩ | ⟨x,y,h5,h6,h7,h8⟩
      · omega
      · exact .inl ⟨x,(hl x).1 h5,h6⟩
      · exact .inr ⟨x,y,(hl x).1 h5,h6,h7,by rw [q9 _ _ (by omega)];exact h8⟩
    · rw [q9 _ _ e1];rcases S.found w (by omega) hwk with h5 | ⟨x,y,h5,h6,h7,h8⟩
      · exact .inl h5
      · exact .inr ⟨x,y,h5,h6,h7,by rw [q9 _ _ (by omega)];exact h8⟩
def HandP (par:Nat→Nat) (L:Nat) (early near:Nat→Nat) (w:Nat):Prop:=∃ x,AncP par x w∧early w<x∧(∀ y,AncP par y w→early w<y→L≤y∧early x≤early y)∧((early x=early w∧near w=early w)∨(early x<early w∧near w=x))
structure NrI (k L:Nat) (E:Nat→Nat→Prop) (par early near:Nat→Nat) (W:Nat→List Nat):Prop where
  fresh:∀ v,v<L→early v=v
  ear:EarlyP L k E par early
  wait:∀ s,∀ w∈W s,L≤w∧w<k∧early w=s∧∀ c,L≤c→par c=s→¬ AncP par c w
  got:∀ w,L≤w→w<k→w∈W (early w)∨HandP par L early near w
  zero:near 0=0
  few:∀ s,(W s).length+L≤k
variable {near:Nat→Nat} {W:Nat→List Nat}
theorem NrI.start (E:Nat→Nat→Prop) (par:Nat→Nat) (k:Nat) (h0:0<k) (hE:∀ u v,E u v→v<k):NrI k k E par (fun v=>v) (fun _=>0) (fun _=>[]) :=
  ⟨fun _ _=>rfl,⟨fun w u h1 h2=>(by have:=hE _ _ h2;omega),fun w u x h1 h2=>(by have:=hE _ _ h2;omega),fun w h1 h2=>(by omega),h0⟩,fun s w h=>(by cases h),fun w h1 h2=>(by omega),rfl,fun s=>(by simp)⟩
theorem anc_child {a v:Nat} (h:AncP par a v):a=v∨∃ c,par c=a∧0<c∧AncP par c v:=by
  induction h with
  | refl=>exact .inl rfl
  | @step v h1 h2 ih =>
    right;rcases ih with h | ⟨c,h3,h4,h5⟩
    · exact ⟨v,h.symm,h1,.refl⟩
    · exact ⟨c,h3,h4,.step h1 h5⟩
theorem wait_below {P w:Nat} (T:TreeP k E par) (S:EarlyP P k E par early) (h0:0<P) (hP:P<k) (hw:P≤w) (hwk:w<k) (he:early w=par P) (hc:∀ c,P+1≤c→par c=par P→¬ AncP par c w):AncP par P w:=by
  have hlt:=S.lt T hw hwk;have ha:=S.anc T hw hwk;rw [he] at ha hlt;rcases anc_child ha with h | ⟨c,h1,h2,h3⟩
  · omega
  · have hcw:=T.anc_le h3 hwk;have hcl:=T.par_lt c h2 (by omega);have hPl:=T.par_lt P h0 hP
    by_cases h4:P<c
    · exact absurd h3 (hc c h4 h1)
    · have h5:AncP par c P:=T.mid c P w h3 hwk (by omega) hw;cases h5 with
      | refl=>exact h3
      | step _ h6=>have:=T.anc_le h6 (by omega);omega
theorem hand_of {P w x:Nat} (T:TreeP k E par) (S:EarlyP P k E par early) (h0:0<P) (hP:P<k) (hw:P≤w) (hwk:w<k) (he:early w=par P) (hc:∀ c,P+1≤c→par c=par P→¬ AncP par c w) (hb:BestP par P early w x) (near:Nat→Nat) (hn:near w=if early x<par P then x else par P):HandP par P early near w:=by
  have hbw:=wait_below T S h0 hP hw hwk he hc;have hPl:=T.par_lt P h0 hP;rcases hb with ⟨h1,_⟩ | ⟨_,h2,h3,h4⟩
  · omega
  · have hx:=h4 w .refl hw;have hyP:∀ y,AncP par y w→early w<y→P≤y:=fun y hy hly=>by
      apply Classical.byContradiction;intro h5;have h6:=T.both hy hbw hwk (by omega);cases h6 with
      | refl=>omega
      | step _ h7=>have:=T.anc_le h7 (by omega);omega
    refine ⟨x,h2,by omega,fun y hy hly=>⟨hyP y hy hly,h4 y hy (hyP y hy hly)⟩,?_⟩;rw [he] at hx ⊢
    by_cases h5:early x<par P
    · rw [if_pos h5] at hn;exact .inr ⟨h5,hn⟩
    · rw [if_neg h5] at hn;exact .inl ⟨by omega,hn⟩
theorem NrI.waits {P e:Nat} (T:TreeP k E par) (N:NrI k (P+1) E par early near W) (hP:P<k) :
    ∀ s,∀ w∈updF W e (W e++[P]) s,P≤w∧w<k∧updF early P e w=s∧∀ c,P+1≤c→par c=s→¬ AncP par c w:=by
  intro s w hw;have old:∀ s,w∈W s→P≤w∧w<k∧updF early P e w=s∧∀ c,P+1≤c→par c=s→¬ AncP par c w:=fun s hw=>by
    obtain ⟨h1,h2,h3,h4⟩:=N.wait s w hw;exact ⟨by omega,h2,by rw [q9 _ _ (by omega)];exact h3,h4⟩
  by_cases e1:s=e
  · subst e1;rw [qB] at hw;rcases List.mem_append.1 hw with hw | hw
    · exact old s hw
    · rw [List.mem_singleton.1 hw];exact ⟨Nat.le_refl _,hP,qB _ _ _,fun c hc _ h=>by have:=T.anc_le h hP;omega⟩
  · rw [q9 _ _ e1] at hw;exact old s hw
theorem NrI.next {P e:Nat} {near':Nat→Nat} (T:TreeP k E par) (N:NrI k (P+1) E par early near W) (h0:0<P) (hP:P<k) (S:EarlyP P k E par (updF early P e))
    (hh:∀ w∈updF W e (W e++[P]) (par P),HandP par P (updF early P e) near' w) (hk:∀ w,w ∉ updF W e (W e++[P]) (par P)→near' w=near w) :
    NrI k P E par (updF early P e) near' (updF (updF W e (W e++[P])) (par P) []):=by
  have hwt:=N.waits (e:=e) T hP;have hPl:=T.par_lt P h0 hP;have hin:∀ w,P≤w→w<k→w∈updF W e (W e++[P]) (updF early P e w)∨HandP par (P+1) early near w:=fun w hw hwk=>by
    by_cases e3:w=P
    · subst e3;left;rw [qB,qB];simp
    · rw [q9 _ _ e3];rcases N.got w (by omega) hwk with h1 | h1
      · left
        by_cases e4:early w=e
        · rw [e4,qB];rw [e4] at h1;simp [h1]
        · rw [q9 _ _ e4];exact h1
      · exact .inr h1
  refine ⟨fun v hv=>by rw [q9 _ _ (by omega)];exact N.fresh v (by omega),S,fun s w hw=>?_,fun w hw hwk=>?_,?_,fun s=>?_⟩
  · by_cases e1:s=par P
    · subst e1;rw [qB] at hw;cases hw
    · rw [q9 _ _ e1] at hw;obtain ⟨h1,h2,h3,h4⟩:=hwt s w hw;refine ⟨h1,h2,h3,fun c hc hp=>?_⟩
      by_cases e2:c=P
      · subst e2;exact absurd hp.symm e1
      · exact h4 c (by omega) hp
  · by_cases e2:w∈updF W e (W e++[P]) (par P)
    · exact .inr (hh w e2)
    · rcases hin w hw hwk with h1 | ⟨x,h1,h2,h3,h4⟩
      · left
        by_cases e4:updF early P e w=par P
        · rw [e4] at h1;exact absurd h1 e2
        · rw [q9 _ _ e4];exact h1
      · right;(have hwP:w≠P:=fun e3=>by have:=(h3 w .refl (by have:=T.anc_le h1 hwk;omega)).1;omega);have hxP:=(h3 x h1 h2).1;refine ⟨x,h1,by rw [q9 _ _ hwP];exact h2,fun y hy hly=>?_,?_⟩
        · rw [q9 _ _ hwP] at hly;obtain ⟨h5,h6⟩:=h3 y hy hly;rw [q9 _ _ (by omega),q9 _ _ (by omega)];exact ⟨by omega,h6⟩
        · rw [q9 _ _ hwP,q9 _ _ (by omega),hk w e2];exact h4
  · rw [hk 0 (fun h=>by have:=(hwt _ _ h).1;omega)];exact N.zero
  · have h1:=N.few s
    by_cases e1:s=par P
    · subst e1;rw [qB];simp;omega
    · rw [q9 _ _ e1]
      by_cases e2:s=e
      · subst e2;rw [qB];simp;omega
      · rw [q9 _ _ e2];omega
structure NdI (k:Nat) (par early near0 near:Nat→Nat) (j:Nat):Prop where
  done:∀ w,0<w→w<j→w<k→∃ x,AncP par x w∧early w<x∧(∀ y,AncP par y w→early w<y→early x≤early y)∧((early x=early w∧near w=early w)∨(early x<early w∧x<w∧near w=near x))
  left:∀ w,j≤w→near w=near0 w
  zero:near 0=0
theorem NrI.hand (T:TreeP k E par) (N:NrI k 1 E par early near W):∀ w,0<w→w<k→HandP par 1 early near w:=fun w h0 hw=>by
  rcases N.got w h0 hw with h | h
  · exfalso;obtain ⟨h1,h2,h3,h4⟩:=N.wait _ w h;have ha:=N.ear.anc T h0 hw;have hl:=N.ear.lt T h0 hw;rcases anc_child ha with h5 | ⟨c,h5,h6,h7⟩
    · omega
    · exact h4 c h6 h5 h7
  · exact h
theorem NrI.pick (T:TreeP k E par) (N:NrI k 1 E par early near W) {w:Nat} (h0:0<w) (hw:w<k):near w<w:=by
  obtain ⟨x,h1,h2,h3,⟨h4,h5⟩ | ⟨h4,h5⟩⟩:=N.hand T w h0 hw
  · have:=N.ear.lt T h0 hw;omega
  · have:=T.anc_le h1 hw;(have:x≠w:=fun e=>by subst e;omega);omega
theorem NdI.start (N:NrI k 1 E par early near W):NdI k par early near near 0:=⟨fun w h0 h1=>by omega,fun _ _=>rfl,N.zero⟩
theorem NdI.step (T:TreeP k E par) {near0:Nat→Nat} (N:NrI k 1 E par early near0 W) {j:Nat} (h:NdI k par early near0 near j) (hj:j<k) :
    NdI k par early near0 (if near j=early j then near else updF near j (near (near j))) (j+1):=by
  have hj0:=h.left j (Nat.le_refl _);rcases Nat.eq_zero_or_pos j with h0 | h0
  · subst h0;rw [if_pos (by rw [h.zero,N.fresh 0 (by omega)])];exact ⟨fun w h1 h2=>by omega,fun w hw=>h.left w (by omega),h.zero⟩
  · have hpick:=N.pick T h0 hj;obtain ⟨x,h1,h2,h3,h4⟩:=N.hand T j h0 hj;have hlt:=N.ear.lt T h0 hj;rcases h4 with ⟨h4,h5⟩ | ⟨h4,h5⟩
    · rw [if_pos (by omega)];refine ⟨fun w hw hwj hwk=>?_,fun w hw=>h.left w (by omega),h.zero⟩
      by_cases e:w=j
      · subst e;exact ⟨x,h1,h2,fun y hy hly=>(h3 y hy hly).2,.inl ⟨h4,by omega⟩⟩
      · exact h.done w hw (by omega) hwk
    · (have hnx:near j=x:=by omega);rw [if_neg (by omega),hnx];(have hxj:x<j:=by omega);refine ⟨fun w hw hwj hwk=>?_,fun w hw=>by rw [q9 _ _ (by omega)];exact h.left w (by omega),by rw [q9 _ _ (by omega)];exact h.zero⟩
      by_cases e:w=j
      · subst e;exact ⟨x,h1,h2,fun y hy hly=>(h3 y hy hly).2,.inr ⟨h4,hxj,by rw [qB,q9 _ _ (by omega)]⟩⟩
      · obtain ⟨z,z1,z2,z3,z4⟩:=h.done w hw (by omega) hwk;refine ⟨z,z1,z2,z3,?_⟩;rw [q9 _ _ e];rcases z4 with z4 | ⟨z4,z5,z6⟩
        · exact .inl z4
        · exact .inr ⟨z4,z5,by rw [q9 _ _ (by omega)];exact z6⟩
theorem NdI.all {near0:Nat→Nat} (h:NdI k par early near0 near k):NearP k par early near:=fun w h0 hw=>h.done w h0 hw hw
end Go.Proofs.YtfoggldjjnabcaaGreatDoor

namespace Go.Proofs.YtfoggldjjnabcaaGreatDoor
set_option linter.unusedVariables false
def mkW (w:Int) (S:Nat→Bool) (t:Nat):Nat→Bool:=if (t:Int)=w then S else mark S t
def fromA (nx:Nat→List Nat) (w:Int) (S:Nat→Bool) (a:Nat):Nat→Bool:=if S a=true then (nx a).foldl (mkW w) S else S
def fromR (nx:Nat→List Nat) (w:Int) (n:Nat) (S:Nat→Bool):Nat→Bool:=(List.range n).foldl (fromA nx w) S
def fromN (nx:Nat→List Nat) (w:Int) (n b:Nat):Nat→Nat→Bool
  | 0=>mark qZ b
  | i+1=>fromR nx w n (fromN nx w n b i)
def nxW (nx:Nat→List Nat) (w:Int) (a:Nat):List Nat:=(nx a).filter fun t:Nat=>decide ((t:Int)≠w)
theorem nxW_mem {nx:Nat→List Nat} {w:Int} {a t:Nat}:t∈nxW nx w a↔t∈nx a∧(t:Int)≠w:=by
  unfold nxW;rw [List.mem_filter];simp
theorem mkW_of {w:Int} {S:Nat→Bool} {t x:Nat} (h:S x=true):mkW w S t x=true:=by
  unfold mkW;split
  · exact h
  · exact mark_of h
theorem foldW_of {w:Int} {l:List Nat}:∀ {S:Nat→Bool} {x:Nat},S x=true→l.foldl (mkW w) S x=true:=by
  induction l with
  | nil=>exact fun h=>h
  | cons t l ih=>exact fun h=>ih (mkW_of h)
theorem foldW_mem {w:Int} {l:List Nat}:∀ {S:Nat→Bool} {t:Nat},t∈l→(t:Int)≠w→l.foldl (mkW w) S t=true:=by
  induction l with
  | nil=>intro S t h;cases h
  | cons y l ih =>
    intro S t h hw;rcases List.mem_cons.1 h with rfl | h
    · rw [List.foldl_cons];exact foldW_of (by unfold mkW;rw [if_neg hw];exact mark_same _ _)
    · exact ih h hw
theorem foldW_inv {w:Int} {l:List Nat}:∀ {S:Nat→Bool} {x:Nat},l.foldl (mkW w) S x=true→S x=true∨(x∈l∧(x:Int)≠w):=by
  induction l with
  | nil=>exact fun h=>.inl h
  | cons y l ih =>
    intro S x h;rcases ih h with h1 | ⟨h1,h2⟩
    · unfold mkW at h1
      split at h1
      · exact .inl h1
      · rename_i hne;rcases mark_cases h1 with rfl | h1
        · exact .inr ⟨by simp,hne⟩
        · exact .inl h1
    · exact .inr ⟨by simp [h1],h2⟩
theorem fromA_of {nx:Nat→List Nat} {w:Int} {S:Nat→Bool} {a x:Nat} (h:S x=true):fromA nx w S a x=true:=by
  unfold fromA;split
  · exact foldW_of h
  · exact h
theorem foldA_of {nx:Nat→List Nat} {w:Int} {l:List Nat}:∀ {S:Nat→Bool} {x:Nat},S x=true→l.foldl (fromA nx w) S x=true:=by
  induction l with
  | nil=>exact fun h=>h
  | cons t l ih=>exact fun h=>ih (fromA_of h)
theorem foldA_mem {nx:Nat→List Nat} {w:Int} {l:List Nat}:∀ {S:Nat→Bool} {a t:Nat},a∈l→S a=true→t∈nx a→(t:Int)≠w→l.foldl (fromA nx w) S t=true:=by
  induction l with
  | nil=>intro S a t h;cases h
  | cons y l ih =>
    intro S a t h hs ht hw;rcases List.mem_cons.1 h with rfl | h
    · rw [List.foldl_cons];exact foldA_of (by unfold fromA;rw [if_pos hs];exact foldW_mem ht hw)
    · exact ih h (fromA_of hs) ht hw
theorem foldA_inv {nx:Nat→List Nat} {w:Int} {p:Nat→Prop} {l:List Nat}:(∀ a t,a∈l→p a→t∈nx a→(t:Int)≠w→p t)→∀ {S:Nat→Bool},(∀ x,S x=true→p x)→∀ x,l.foldl (fromA nx w) S x=true→p x:=by
  induction l with
  | nil=>exact fun _ _ h=>h
  | cons y l ih =>
    intro hp S h;refine ih (fun a t ha=>hp a t (by simp [ha])) fun x hx=>?_;unfold fromA at hx
    split at hx
    · rename_i hy;rcases foldW_inv hx with h1 | ⟨h1,h2⟩
      · exact h x h1
      · exact hp y x (by simp) (h y hy) h1 h2
    · exact h x hx
def ClosedG (nx:Nat→List Nat) (w:Int) (n:Nat) (S:Nat→Bool):Prop:=∀ a t,a<n→S a=true→t∈nx a→(t:Int)≠w→S t=true
theorem unseen_less {n:Nat} {S S':Nat→Bool} (h:∀ x,S x=true→S' x=true) {t:Nat} (ht:t<n) (h1:S t=false) (h2:S' t=true):qP n S'+1≤qP n S:=by
  rw [qy h1 ht];have:qP n S'≤qP n (mark S t):=unseen_mono fun x hx=>by
    rcases mark_cases hx with rfl | hx
    · exact h2
    · exact h x hx
  omega
theorem from_step {nx:Nat→List Nat} {n:Nat} (hnx:∀ x,∀ t∈nx x,t<n) {w:Int} {b:Nat} (hb:b<n):∀ i:Nat,ClosedG nx w n (fromN nx w n b i)∨qP n (fromN nx w n b i)+i+1≤n:=by
  intro i
  induction i with
  | zero =>
    right;have h:=qy (S:=qZ) (b:=b) rfl hb;have h2:=unseen_le n qZ;show qP n (mark qZ b)+0+1≤n;omega
  | succ i ih =>
    generalize hS:fromN nx w n b i=S at ih;(have hS':fromN nx w n b (i+1)=fromR nx w n S:=by rw [← hS];rfl);rw [hS']
    by_cases hc:ClosedG nx w n S
    · left;have hup:∀ x,fromR nx w n S x=true→S x=true :=
        foldA_inv (p:=fun x=>S x=true) (fun a t ha hs ht hw=>hc a t (List.mem_range.1 ha) hs ht hw) (fun x hx=>hx)
      intro a t ha hs ht hw;exact foldA_of (hc a t ha (hup a hs) ht hw)
    · rcases ih with ih | ih
      · exact absurd ih hc
      · right;have:∃ a t,a<n∧S a=true∧t∈nx a∧(t:Int)≠w∧S t=false:=by
          apply Classical.byContradiction;intro h;apply hc;intro a t ha hs ht hw;cases h2:S t
          · exact absurd ⟨a,t,ha,hs,ht,hw,h2⟩ h
          · rfl
        obtain ⟨a,t,ha,hs,ht,hw,h2⟩:=this;have:=unseen_less (S:=S) (S':=fromR nx w n S) (fun x hx=>foldA_of hx) (hnx a t ht) h2 (foldA_mem (List.mem_range.2 ha) hs ht hw);omega
theorem fromN_of {nx:Nat→List Nat} {w:Int} {n b:Nat}:∀ i:Nat,fromN nx w n b i b=true
  | 0=>mark_same _ _
  | i+1=>foldA_of (fromN_of i)
theorem fromN_reach {nx:Nat→List Nat} {w:Int} {n b:Nat}:∀ (i x:Nat),fromN nx w n b i x=true→Reach (nxW nx w) b x
  | 0,x,h=>by
    rcases mark_cases h with rfl | h
    · exact .refl
    · cases h
  | i+1,x,h=>foldA_inv (p:=Reach (nxW nx w) b) (fun a t _ ha ht hw=>.step ha (nxW_mem.2 ⟨ht,hw⟩)) (fun y hy=>fromN_reach i y hy) x h
theorem fromN_iff {nx:Nat→List Nat} {n:Nat} (hnx:∀ x,∀ t∈nx x,t<n) {w:Int} {b:Nat} (hb:b<n) (x:Nat):fromN nx w n b n x=true↔Reach (nxW nx w) b x:=by
  refine ⟨fromN_reach n x,fun h=>?_⟩;rcases from_step hnx (w:=w) hb n with hc | hc
  · have hlt:∀ y,Reach (nxW nx w) b y→y<n:=fun y hy=>by
      cases hy with
      | refl=>exact hb
      | step _ h=>exact hnx _ _ (nxW_mem.1 h).1
    induction h with
    | refl=>exact fromN_of n
    | step h1 h2 ih=>exact hc _ _ (hlt _ h1) ih (nxW_mem.1 h2).1 (nxW_mem.1 h2).2
  · omega
theorem nxW_any (nx:Nat→List Nat) (w:Int) (hw:w<0):nxW nx w=nx:=by
  (funext a);unfold nxW;rw [List.filter_eq_self];intro t _;simp;omega
theorem fromN_reachB {nx:Nat→List Nat} {n:Nat} (hnx:∀ x,∀ t∈nx x,t<n) (hn:0<n) (x:Nat):fromN nx (-1) n 0 n x=reachB nx n x:=by
  have h1:=fromN_iff hnx (w:=-1) (b:=0) hn x;rw [nxW_any nx (-1) (by omega),← orderL_mem hnx (by omega)] at h1;unfold reachB;rw [Bool.eq_iff_iff,decide_eq_true_iff];exact h1
end Go.Proofs.YtfoggldjjnabcaaGreatDoor

namespace Go.Proofs.YtfoggldjjnabcaaGreatDoor
open Go.ChangeShapes Go.WideShapes Go.RowKit Go.Deep
set_option linter.unusedVariables false
def nxF (bs:List BlkD) (a:Nat):List Nat:=match bs[a]? with
  | some b=>nextN bs.length b.term.to
  | none=>[]
theorem nxF_at {bs:List BlkD} {a:Nat} {b:BlkD} (h:bs[a]?=some b):nxF bs a=nextN bs.length b.term.to:=by unfold nxF;rw [h]
theorem nxF_lt (bs:List BlkD):∀ x,∀ t∈nxF bs x,t<bs.length:=fun x t ht=>by
  unfold nxF at ht
  split at ht
  · exact (nextN_mem.1 ht).1
  · cases ht
def zs (l:List Nat):List Int:=l.map fun q:Nat=>(q:Int)
theorem qc (l:List Nat):(zs l).length=l.length:=by simp [zs]
theorem zs_at {l:List Nat} {i:Nat} {x:Int} (h:(zs l)[i]?=some x):∃ q:Nat,l[i]?=some q∧x=q:=by
  unfold zs at h;rw [List.getElem?_map] at h;obtain ⟨q,hq,rfl⟩:=Option.map_eq_some_iff.1 h;exact ⟨q,hq,rfl⟩
theorem zs_snoc (l:List Nat) (q:Nat):zs (l++[q])=zs l++[(q:Int)]:=by simp [zs]
theorem zs_mem {l:List Nat} {x:Int} (h:x∈zs l):∃ q∈l,x=(q:Int):=by
  unfold zs at h;obtain ⟨q,hq,rfl⟩:=List.mem_map.1 h;exact ⟨q,hq,rfl⟩
def qv (bs:List BlkD) (x:Nat):Bool:=reachB (nxF bs) bs.length x
def orderF (bs:List BlkD):List Nat:=orderL (nxF bs) bs.length
theorem qH {w w':World} {base n size:Nat} {e:TypeId} {v:Value} {xs:List Value} (h:w.ownsRow base e size v n xs) (hb:∀ g,v.ownBlock=some g→w'.heap[g]?=w.heap[g]?):w'.ownsRow base e size v n xs:=by
  obtain ⟨h1,h2⟩:=h;refine ⟨h1,?_⟩;rcases h2 with h2 | ⟨g,c,cur,rfl,h3,h4,h5⟩
  · exact .inl h2
  · exact .inr ⟨g,c,cur,rfl,h3,(hb g rfl).trans h4,h5⟩
structure Gri (w:World) (G K n:Nat) (V:Nat→Value) (L:Nat→List Int):Prop where
  row:w.rowIs G 27 n V
  own:∀ i,i<n→w.ownsRow K 3 1 (V i) (L i).length ((L i).map (Value.int .i64))
  apart:∀ i j,i<n→j<n→i≠j→(V i).ownBlock=none∨(V i).ownBlock≠(V j).ownBlock
  lt:G<K
theorem Gri.congr {w:World} {G K n:Nat} {V:Nat→Value} {L L':Nat→List Int} (h:Gri w G K n V L) (e:∀ i,i<n→L i=L' i):Gri w G K n V L' :=
  ⟨h.row,fun i hi=>by rw [← e i hi];exact h.own i hi,h.apart,h.lt⟩
theorem Gri.alloc {w:World} {G K n:Nat} {V:Nat→Value} {L:Nat→List Int} (h:Gri w G K n V L) (o:Obj):Gri (w.alloc o) G K n V L :=
  ⟨h.row.alloc o,fun i hi=>(h.own i hi).alloc o,h.apart,h.lt⟩
theorem Gri.drewN {w:World} {G K n:Nat} {V:Nat→Value} {L:Nat→List Int} (h:Gri w G K n V L) (k:Nat):Gri (w.drewN k) G K n V L:=⟨h.row,h.own,h.apart,h.lt⟩
theorem Gri.of_blocks {w w':World} {G K n:Nat} {V:Nat→Value} {L:Nat→List Int} (h:Gri w G K n V L) (hG:w'.heap[G]?=w.heap[G]?) (hK:∀ g,K≤g→g<w.heap.size→w'.heap[g]?=w.heap[g]?):Gri w' G K n V L :=
  ⟨h.row.of_block hG,fun i hi=>qH (h.own i hi) fun g hg=>hK g ((h.own i hi).lt g hg).1 ((h.own i hi).lt g hg).2,h.apart,h.lt⟩
theorem Gri.below {w w':World} {G K n:Nat} {V:Nat→Value} {L:Nat→List Int} (h:Gri w G K n V L) (hb:Below w.heap.size w w'):Gri w' G K n V L :=
  h.of_blocks (hb.block _ h.row.lt) fun g _ hg=>hb.block g hg
theorem Gri.setOther {w:World} {G K n:Nat} {V:Nat→Value} {L:Nat→List Int} (h:Gri w G K n V L) {a:Addr} (h1:G≠a.block) (h2:a.block<K) (v:Value):Gri (w.setCell a v) G K n V L :=
  h.of_blocks (Below.heap_setCell _ _ _ _ h1) fun g hg _=>Below.heap_setCell _ _ _ _ (by omega)
theorem Gri.made (w:World) (G K n:Nat) (hG:G=w.heap.size) (hK:G<K):Gri (w.alloc (.cells (madeCells #[.slice none 0 0] n) 27)) G K n (fun _=>.slice none 0 0) (fun _=>[]):=by
  subst hG;exact ⟨World.rowIs_made w _ n _,fun i _=>World.ownsRow_nil _ _ _ _,fun i j _ _ _=>.inl rfl,hK⟩
theorem Gri.push {w w3:World} {G K n:Nat} {V:Nat→Value} {L:Nat→List Int} (h:Gri w G K n V L) {t:Nat} (ht:t<n) {g cap:Nat} {x:Int}
    (hown:w3.ownsRow K 3 1 (.slice (some ⟨g,0,none⟩) ((L t).length+1) cap) ((L t).length+1) ((L t).map (Value.int .i64)++[.int .i64 x]))
    (hgrow:w.grownBy w3 (V t).ownBlock) (hloc:(V t).ownBlock=some g∨g=w.heap.size) :
    Gri (w3.setCell ⟨G,t,none⟩ (.slice (some ⟨g,0,none⟩) ((L t).length+1) cap)) G K n (fun j=>if j=t then .slice (some ⟨g,0,none⟩) ((L t).length+1) cap else V j) (fun j=>if j=t then L t++[x] else L j):=by
  have hGK:=h.lt;(have hblk:w3.heap[G]?=w.heap[G]?:=hgrow.block G h.row.lt (fun e=>by have:=((h.own t ht).lt G e.symm).1;omega));have hrow3:w3.rowIs G 27 n V:=h.row.of_block hblk;refine ⟨hrow3.set t _,fun j hj=>?_,fun i j hi hj hij=>?_,hGK⟩
  · by_cases e:j=t
    · subst e;simp only [if_true];(have:=ownsRow_setCell_below hown (a:=⟨G,j,none⟩) (by show G<K;omega) (.slice (some ⟨g,0,none⟩) ((L j).length+1) cap));simpa using this
    · simp only [if_neg e];exact ownsRow_setCell_below ((h.own j hj).kept hgrow (h.apart j t hj ht e)) (a:=⟨G,t,none⟩) (by show G<K;omega) _
  · have key:∀ j,j<n→j≠t→(V j).ownBlock=none∨(V j).ownBlock≠some g:=fun j hj hjt=>by
      rcases hloc with e | e
      · rw [← e];exact h.apart j t hj ht hjt
      · cases hb:(V j).ownBlock with
        | none=>exact .inl rfl
        | some b=>right;intro e2;have:=((h.own j hj).lt b hb).2;simp at e2;omega
    by_cases ei:i=t
    · subst ei;simp only [if_true,if_neg (Ne.symm hij)];right;rcases key j hj (Ne.symm hij) with e | e
      · rw [e];simp [Value.ownBlock]
      · intro e2;exact e (e2.symm.trans rfl)
    · by_cases ej:j=t
      · subst ej;simp only [if_true,if_neg ei];exact key i hi ei
      · simp only [if_neg ei,if_neg ej];exact h.apart i j hi hj hij
theorem Gri.reads {w:World} {G K n:Nat} {V:Nat→Value} {L:Nat→List Int} (h:Gri w G K n V L) (hn:n≤1000000) (h64:∀ i,i<n→∀ x∈L i,I64 x):SL w 1 RRow (some ⟨G,0,none⟩) n ((List.range n).map L):=by
  (refine ⟨by simp,⟨by unfold maxLen;omega,fun e=>by cases e⟩,fun _=>⟨G,0,rfl,fun i x hi=>?_⟩⟩);(have hl:i<n:=by have:=(List.getElem?_eq_some_iff.1 hi).1;simpa using this);rw [List.getElem?_map] at hi;obtain ⟨q,hq,rfl⟩:=Option.map_eq_some_iff.1 hi;obtain ⟨_,rfl⟩:=List.getElem?_eq_some_iff.1 hq;rw [Nat.mul_one,Nat.zero_add,List.getElem_range];obtain ⟨A,c,e,hs⟩:=qx (h.own i hl) (h64 i hl);exact ⟨A,c,(h.row.cell hl).trans (congrArg some e),hs⟩
def NX (bs:List BlkD) (k:Nat) (t:List Int) (i:Nat):List Int:=if i<k then zs (nxF bs i) else if i=k then zs (nextN bs.length t) else []
def LastOk (la:Nat→Int) (n k:Nat) (acc:List Nat):Prop:=∀ t,t<n→0≤la t∧la t≤k+1∧(la t=k+1↔t∈acc)
theorem NX_zero (bs:List BlkD) (i:Nat):NX bs 0 [] i=[]:=by unfold NX nextN;simp [zs]
theorem NX_all {bs:List BlkD} {k:Nat} {b:BlkD} (h:bs[k]?=some b) (i:Nat):NX bs k b.term.to i=NX bs (k+1) [] i:=by
  unfold NX
  by_cases h1:i<k
  · rw [if_pos h1,if_pos (by omega)]
  · rw [if_neg h1]
    by_cases h2:i=k
    · subst h2;rw [if_pos rfl,if_pos (by omega),nxF_at h]
    · rw [if_neg h2,if_neg (by omega)]
      by_cases h3:i=k+1
      · rw [if_pos h3];rfl
      · rw [if_neg h3]
theorem NX_end (bs:List BlkD) (i:Nat) (h:i<bs.length):NX bs bs.length [] i=zs (nxF bs i):=by unfold NX;rw [if_pos h]
theorem NX_here (bs:List BlkD) (k:Nat) (t:List Int):NX bs k t k=zs (nextN bs.length t):=by unfold NX;rw [if_neg (by omega),if_pos rfl]
theorem nextN_step {n:Nat} {t:List Int} {j:Nat} {x:Int} (hx:t[j]?=some x):nextN n (t.take (j+1))=addT n (nextN n (t.take j)) x:=by
  rw [qD hx,nextN_snoc]
theorem addT_old {n:Nat} {acc:List Nat} {x:Int} (h:¬ (0≤x∧x<n∧x.toNat ∉ acc)):addT n acc x=acc:=by unfold addT;rw [if_neg h]
theorem addT_new {n:Nat} {acc:List Nat} {q:Nat} (h:q<n) (h2:q ∉ acc):addT n acc (q:Int)=acc++[q]:=by unfold addT;rw [if_pos ⟨by omega,by omega,by simpa using h2⟩];simp
theorem NX_old {bs:List BlkD} {k:Nat} {t:List Int} {j:Nat} {x:Int} (hx:t[j]?=some x) (h:¬ (0≤x∧x<bs.length∧x.toNat ∉ nextN bs.length (t.take j))) (i:Nat):NX bs k (t.take j) i=NX bs k (t.take (j+1)) i:=by
  unfold NX;rw [nextN_step hx,addT_old h]
theorem NX_new {bs:List BlkD} {k:Nat} {t:List Int} {j q:Nat} (hx:t[j]?=some (q:Int)) (hq:q<bs.length) (h:q ∉ nextN bs.length (t.take j)) (i:Nat) :
    (if i=k then NX bs k (t.take j) k++[(q:Int)] else NX bs k (t.take j) i)=NX bs k (t.take (j+1)) i:=by
  by_cases e:i=k
  · subst e;rw [if_pos rfl,NX_here,NX_here,nextN_step hx,addT_new hq h,zs_snoc]
  · rw [if_neg e];unfold NX;rw [if_neg e,if_neg e]
theorem LastOk.old {la:Nat→Int} {n k j:Nat} {t:List Int} {x:Int} (hl:LastOk la n k (nextN n (t.take j))) (hx:t[j]?=some x) (h:¬ (0≤x∧x<n∧x.toNat ∉ nextN n (t.take j))):LastOk la n k (nextN n (t.take (j+1))):=by
  rw [nextN_step hx,addT_old h];exact hl
theorem LastOk.new {la:Nat→Int} {n k j q:Nat} {t:List Int} (hl:LastOk la n k (nextN n (t.take j))) (hx:t[j]?=some (q:Int)) (hq:q<n) (h:q ∉ nextN n (t.take j)):LastOk (fun i=>if i=q then (k:Int)+1 else la i) n k (nextN n (t.take (j+1))):=by
  rw [nextN_step hx,addT_new hq h];intro i hi;obtain ⟨h1,h2,h3⟩:=hl i hi;simp only [List.mem_append,List.mem_singleton]
  by_cases e:i=q
  · simp only [if_pos e];exact ⟨by omega,by omega,by simp [e]⟩
  · simp only [if_neg e];exact ⟨h1,h2,h3.trans (by simp [e])⟩
theorem LastOk.next {la:Nat→Int} {n k:Nat} {acc:List Nat} (hl:LastOk la n k acc):LastOk la n (k+1) (nextN n []):=fun i hi=>by
  obtain ⟨h1,h2,h3⟩:=hl i hi;exact ⟨h1,by push_cast;omega,⟨fun h=>by push_cast at h;omega,fun h=>by simp [nextN] at h⟩⟩
theorem LastOk.start (n:Nat):LastOk (fun _=>0) n 0 (nextN n []):=fun i hi=>⟨by simp,by simp,⟨fun h=>by simp at h,fun h=>by simp [nextN] at h⟩⟩
theorem slB_of_own {w:World} {base:Nat} {v:Value} {xs:List Int} (h:w.ownsRow base 3 1 v xs.length (xs.map (Value.int .i64))) (hx:∀ x∈xs,I64 x) {B:Nat→Prop} (hB:∀ g,base≤g→g<w.heap.size→B g) :
    ∃ A c,v=.slice A xs.length c∧SL w 1 (RIntB B) A c xs:=by
  obtain ⟨A,c,e,hs⟩:=qx h hx;obtain ⟨h1,h2,h3⟩:=hs;refine ⟨A,c,e,h1,h2,fun hp=>?_⟩;obtain ⟨b,o,e2,hr⟩:=h3 hp;(have hl:=h.lt b (by rw [e,e2];rfl));exact ⟨b,o,e2,fun i x hi=>⟨hB b hl.1 hl.2,hr i x hi⟩⟩
end Go.Proofs.YtfoggldjjnabcaaGreatDoor
