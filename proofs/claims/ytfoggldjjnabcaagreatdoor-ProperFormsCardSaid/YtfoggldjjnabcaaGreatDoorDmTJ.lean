/- Which places one can't come by without, the way of Lengauer and Tarjan, in mathematics. No condition. -/
namespace Go.Proofs.YtfoggldjjnabcaaGreatDoor
set_option linter.unusedVariables false
inductive AncP (par:Nat→Nat) (a:Nat):Nat→Prop
  | refl:AncP par a a
  | step {v:Nat}:0<v→AncP par a (par v)→AncP par a v
inductive WayP (E:Nat→Nat→Prop) (z lo:Nat):Nat→Prop
  | one {v:Nat}:E z v→lo≤v→WayP E z lo v
  | step {u v:Nat}:WayP E z lo u→E u v→lo≤v→WayP E z lo v
inductive AvP (E:Nat→Nat→Prop) (d:Nat):Nat→Prop
  | zero:0≠d→AvP E d 0
  | step {u v:Nat}:AvP E d u→E u v→v≠d→AvP E d v
structure TreeP (n:Nat) (E:Nat→Nat→Prop) (par:Nat→Nat):Prop where
  lt:∀ u v,E u v→u<n∧v<n
  par_lt:∀ v,0<v→v<n→par v<v
  par_e:∀ v,0<v→v<n→E (par v) v
  up:∀ u v,E u v→u<v→AncP par u v
  mid:∀ a b c,AncP par a c→c<n→a≤b→b≤c→AncP par a b
variable {n:Nat} {E:Nat→Nat→Prop} {par:Nat→Nat}
theorem AncP.trans {a b c:Nat} (h:AncP par a b) (k:AncP par b c):AncP par a c:=by
  induction k with
  | refl=>exact h
  | step h0 _ ih=>exact .step h0 ih
theorem TreeP.anc_le (T:TreeP n E par) {a c:Nat} (h:AncP par a c) (hc:c<n):a≤c:=by
  induction h with
  | refl=>exact Nat.le_refl _
  | step h0 _ ih =>
    have:=T.par_lt _ h0 hc;have:=ih (by omega);omega
theorem TreeP.both (T:TreeP n E par) {a b c:Nat} (h:AncP par a c) (k:AncP par b c) (hc:c<n) (hab:a≤b):AncP par a b:=T.mid a b c h hc hab (T.anc_le k hc)
theorem WayP.mono {z lo lo' v:Nat} (h:WayP E z lo v) (hl:lo'≤lo):WayP E z lo' v:=by
  induction h with
  | one h1 h2=>exact .one h1 (by omega)
  | step _ h1 h2 ih=>exact .step ih h1 (by omega)
theorem WayP.ge {z lo v:Nat} (h:WayP E z lo v):lo≤v:=by
  cases h with
  | one _ h=>exact h
  | step _ _ h=>exact h
theorem TreeP.way_down (T:TreeP n E par) {z lo x u:Nat} (h:WayP E z lo x) (k:AncP par x u) (hu:u<n):WayP E z lo u:=by
  induction k with
  | refl=>exact h
  | @step v h0 k ih =>
    have hp:=T.par_lt _ h0 hu;exact .step (ih (by omega)) (T.par_e _ h0 hu) (by have:=T.anc_le (.step h0 k) hu;have:=h.ge;omega)
theorem TreeP.av_down (T:TreeP n E par) {d x u:Nat} (h:AvP E d x) (k:AncP par x u) (hu:u<n) (hd:d<x):AvP E d u:=by
  induction k with
  | refl=>exact h
  | @step v h0 k ih =>
    have hp:=T.par_lt _ h0 hu;exact .step (ih (by omega)) (T.par_e _ h0 hu) (by have:=T.anc_le (.step h0 k) hu;omega)
theorem TreeP.av_tree (T:TreeP n E par) {d:Nat}:∀ u,u<n→¬ AncP par d u→AvP E d u:=by
  intro u
  induction u using Nat.strongRecOn with
  | _ u ih =>
    intro hu hd
    by_cases h:u=0
    · subst h;exact .zero fun e=>hd (e ▸ .refl)
    · have hp:=T.par_lt u (by omega) hu;refine .step (ih _ hp (by omega) fun k=>hd (.step (by omega) k)) (T.par_e u (by omega) hu) fun e=>hd (e ▸ .refl)
theorem WayP.av {d z lo v:Nat} (h:WayP E z lo v) (hz:AvP E d z) (hd:d<lo):AvP E d v:=by
  induction h with
  | one h1 h2=>exact .step hz h1 (by omega)
  | step _ h1 h2 ih=>exact .step ih h1 (by omega)
def ByP (E:Nat→Nat→Prop) (z w:Nat):Prop:=E z w∨∃ u,WayP E z (w+1) u∧E u w
theorem ByP.way {z w lo:Nat} (h:ByP E z w) (hl:lo≤w):WayP E z lo w:=by
  rcases h with h | ⟨u,h,k⟩
  · exact .one h hl
  · exact .step (h.mono (by omega)) k hl
theorem TreeP.least (T:TreeP n E par) {z lo v:Nat} (h:WayP E z lo v):∃ y,lo≤y∧AncP par y v∧ByP E z y∧WayP E z y v:=by
  induction h with
  | @one v h1 h2=>exact ⟨v,h2,.refl,.inl h1,.one h1 (Nat.le_refl _)⟩
  | @step u v h1 h2 h3 ih =>
    obtain ⟨y,hy,ha,hb,hw⟩:=ih;have hlt:=T.lt _ _ h2
    by_cases h4:u<v
    · exact ⟨y,hy,ha.trans (T.up _ _ h2 h4),hb,.step hw h2 (by have:=hw.ge;omega)⟩
    · by_cases h5:y≤v
      · exact ⟨y,hy,T.mid _ _ _ ha hlt.1 h5 (by omega),hb,.step hw h2 h5⟩
      · exact ⟨v,h3,.refl,.inr ⟨u,hw.mono (by omega),h2⟩,.step (hw.mono (by omega)) h2 (Nat.le_refl _)⟩
structure EarlyP (L n:Nat) (E:Nat→Nat→Prop) (par s:Nat→Nat):Prop where
  here:∀ w u,L≤w→E u w→u≤w→s w≤u
  chain:∀ w u x,L≤w→E u w→AncP par x u→w<x→s w≤s x
  found:∀ w,L≤w→w<n→(∃ u,E u w∧u<w∧s w=u)∨∃ u x,E u w∧AncP par x u∧w<x∧s w=s x
  pos:0<L
variable {s:Nat→Nat} {L:Nat}
theorem EarlyP.lt (T:TreeP n E par) (S:EarlyP L n E par s) {w:Nat} (h0:L≤w) (hw:w<n):s w<w:=by
  have hp:=S.pos;have h:=S.here w _ h0 (T.par_e w (by omega) hw) (Nat.le_of_lt (T.par_lt w (by omega) hw));have:=T.par_lt w (by omega) hw;omega
theorem EarlyP.by (T:TreeP n E par) (S:EarlyP L n E par s):∀ (k w:Nat),n - w≤k→L≤w→w<n→ByP E (s w) w:=by
  intro k
  induction k with
  | zero=>intro w h1 _ h2;omega
  | succ k ih =>
    intro w hk h0 hw;rcases S.found w h0 hw with ⟨u,h1,h2,h3⟩ | ⟨u,x,h1,h2,h3,h4⟩
    · rw [h3];exact .inl h1
    · have hu:=(T.lt _ _ h1).1;have hx:=T.anc_le h2 hu;have:=ih x (by omega) (by omega) (by omega);rw [h4];exact .inr ⟨u,T.way_down (this.way (by omega)) h2 hu,h1⟩
theorem EarlyP.le_by (T:TreeP n E par) (S:EarlyP L n E par s):∀ (k w z:Nat),n - w≤k→L≤w→w<n→ByP E z w→s w≤z:=by
  intro k
  induction k with
  | zero=>intro w z h1 _ h2;omega
  | succ k ih =>
    intro w z hk h0 hw hb;rcases hb with h | ⟨u,h1,h2⟩
    · by_cases hz:z≤w
      · exact S.here w z h0 h hz
      · have h1:=S.chain w z z h0 h .refl (by omega);have h2:=S.lt T (w:=z) (by omega) (T.lt _ _ h).1;omega
    · obtain ⟨y,hy,ha,hb,-⟩:=T.least h1;have hu:=(T.lt _ _ h2).1;have hyu:=T.anc_le ha hu;have h3:=ih y z (by omega) (by omega) (by omega) hb;have h4:=S.chain w u y h0 h2 ha (by omega);omega
theorem EarlyP.anc (T:TreeP n E par) (S:EarlyP L n E par s) {w:Nat} (h0:L≤w) (hw:w<n):AncP par (s w) w:=by
  have hlt:=S.lt T h0 hw;rcases S.by T _ w (Nat.le_refl _) h0 hw with h | ⟨u,h1,h2⟩
  · exact T.up _ _ h hlt
  · have key:∀ u,WayP E (s w) (w+1) u→AncP par (s w) u∧w<u:=by
      intro u h
      induction h with
      | @one v h3 h4=>exact ⟨T.up _ _ h3 (by omega),by omega⟩
      | @step a b h3 h4 h5 ih =>
        refine ⟨?_,by omega⟩
        by_cases h6:a<b
        · exact ih.1.trans (T.up _ _ h4 h6)
        · exact T.mid _ _ _ ih.1 (T.lt _ _ h4).1 (by omega) (by omega)
    obtain ⟨h3,h4⟩:=key u h1;exact T.mid _ _ _ h3 (T.lt _ _ h2).1 (by omega) (by omega)
def NearP (n:Nat) (par s D:Nat→Nat):Prop:=∀ w,0<w→w<n→∃ x,AncP par x w∧s w<x∧(∀ y,AncP par y w→s w<y→s x≤s y)∧((s x=s w∧D w=s w)∨(s x<s w∧x<w∧D w=D x))
variable {D:Nat→Nat}
theorem near_le (T:TreeP n E par) (S:EarlyP 1 n E par s) (N:NearP n par s D):∀ w,0<w→w<n→D w≤s w:=by
  intro w
  induction w using Nat.strongRecOn with
  | _ w ih =>
    intro h0 hw;obtain ⟨x,h1,h2,h3,⟨h4,h5⟩ | ⟨h4,h5,h6⟩⟩:=N w h0 hw
    · omega
    · have:=ih x h5 (by omega) (by omega);omega
theorem near_anc (T:TreeP n E par) (S:EarlyP 1 n E par s) (N:NearP n par s D):∀ w,0<w→w<n→AncP par (D w) w:=by
  intro w
  induction w using Nat.strongRecOn with
  | _ w ih =>
    intro h0 hw;obtain ⟨x,h1,h2,h3,⟨h4,h5⟩ | ⟨h4,h5,h6⟩⟩:=N w h0 hw
    · rw [h5];exact S.anc T h0 hw
    · rw [h6];exact (ih x h5 (by omega) (by omega)).trans h1
theorem av_last {d v:Nat} (h:AvP E d v):v<d∨∃ z,z<d∧AvP E d z∧WayP E z (d+1) v:=by
  induction h with
  | zero h=>left;omega
  | @step u v h1 h2 h3 ih =>
    rcases Nat.lt_or_ge v d with h | h
    · exact .inl h
    · right;rcases ih with h4 | ⟨z,h4,h5,h6⟩
      · exact ⟨u,h4,h1,.one h2 (by omega)⟩
      · exact ⟨z,h4,h5,.step h6 h2 (by omega)⟩
theorem near_sound (T:TreeP n E par) (S:EarlyP 1 n E par s) (N:NearP n par s D):∀ w,0<w→w<n→¬ AvP E (D w) w:=by
  intro w
  induction w using Nat.strongRecOn with
  | _ w ih =>
    intro h0 hw hav;have hDs:=near_le T S N w h0 hw;have hsw:=S.lt T h0 hw;rcases av_last hav with h | ⟨z,hz,hza,hzw⟩
    · omega
    · obtain ⟨y,hy,hay,hby,-⟩:=T.least hzw;have hyw:=T.anc_le hay hw;have hsy:=S.le_by T _ y z (Nat.le_refl _) (by omega) (by omega) hby;have hyav:AvP E (D w) y:=(hby.way (lo:=D w+1) hy).av hza (by omega);obtain ⟨x,h1,h2,h3,⟨h4,h5⟩ | ⟨h4,h5,h6⟩⟩:=N w h0 hw
      · have:=h3 y hay (by omega);omega
      · have hDx:=near_le T S N x (by omega) (by omega)
        by_cases hys:s w<y
        · have:=h3 y hay hys;omega
        · have hyx:AncP par y x:=T.both hay h1 hw (by omega);exact ih x h5 (by omega) (by omega) (h6 ▸ T.av_down hyav hyx (by omega) (by omega))
theorem near_full (T:TreeP n E par) (S:EarlyP 1 n E par s) (N:NearP n par s D):∀ w,0<w→w<n→∀ v,D w<v→v<w→AvP E v w:=by
  intro w
  induction w using Nat.strongRecOn with
  | _ w ih =>
    intro h0 hw v hv hvw;have hsw:=S.lt T h0 hw;have hs:s w<v→AvP E v w:=fun h=>by
      (have h1:AvP E v (s w):=T.av_tree _ (by omega) fun k=>by have:=T.anc_le k (by omega);omega);rcases S.by T _ w (Nat.le_refl _) h0 hw with h2 | ⟨u,h2,h3⟩
      · exact .step h1 h2 (by omega)
      · exact .step (h2.av h1 (by omega)) h3 (by omega)
    obtain ⟨x,h1,h2,h3,⟨h4,h5⟩ | ⟨h4,h5,h6⟩⟩:=N w h0 hw
    · exact hs (by omega)
    · by_cases hx:v<x
      · exact T.av_down (ih x h5 (by omega) (by omega) v (by omega) hx) h1 hw hx
      · exact hs (by omega)
theorem av_self {d:Nat}:∀ {v},AvP E d v→v≠d:=by
  intro v h;cases h with
  | zero h=>exact h
  | step _ _ h=>exact h
theorem av_split {a b v:Nat} (h:AvP E a v):AvP E b v∨AvP E a b:=by
  induction h with
  | zero h =>
    by_cases e:0=b
    · right;rw [← e];exact .zero h
    · exact .inl (.zero e)
  | @step u v h1 h2 h3 ih =>
    rcases ih with h4 | h4
    · by_cases e:v=b
      · right;rw [← e];exact .step h1 h2 h3
      · exact .inl (.step h4 h2 e)
    · exact .inr h4
theorem dom_trans {a b c:Nat} (h:¬ AvP E a b) (k:¬ AvP E b c):¬ AvP E a c:=fun h2=>by
  rcases av_split (b:=b) h2 with h3 | h3
  · exact k h3
  · exact h h3
theorem dom_le (T:TreeP n E par) {a b:Nat} (hb:b<n) (h:¬ AvP E a b):a≤b:=by
  apply Classical.byContradiction;intro h2;exact h (T.av_tree b hb fun k=>by have:=T.anc_le k hb;omega)
theorem dom_near (T:TreeP n E par) (S:EarlyP 1 n E par s) (N:NearP n par s D) {a w:Nat} (h0:0<w) (hw:w<n) (h:¬ AvP E a w) (hne:a≠w):¬ AvP E a (D w):=by
  have hle:=dom_le T hw h;have hDw:=near_anc T S N w h0 hw;have hDl:=T.anc_le hDw hw;have h2:a≤D w:=by
    apply Classical.byContradiction;intro h3;exact h (near_full T S N w h0 hw a (by omega) (by omega))
  intro h3;have:=av_self h3;exact h (T.av_down h3 hDw hw (by omega))
end Go.Proofs.YtfoggldjjnabcaaGreatDoor

namespace Go.Proofs.YtfoggldjjnabcaaGreatDoor
set_option linter.unusedVariables false
def addT (n:Nat) (acc:List Nat) (t:Int):List Nat:=if 0≤t∧t<n∧t.toNat ∉ acc then acc++[t.toNat] else acc
def nextN (n:Nat) (ts:List Int):List Nat:=ts.foldl (addT n) []
theorem addT_mem {n:Nat} {acc:List Nat} {t:Int} {q:Nat}:q∈addT n acc t↔q∈acc∨(q<n∧(q:Int)=t):=by
  unfold addT
  split
  · rename_i h;rw [List.mem_append,List.mem_singleton];constructor
    · rintro (h1 | h1)
      · exact .inl h1
      · exact .inr ⟨by omega,by omega⟩
    · rintro (h1 | h1)
      · exact .inl h1
      · exact .inr (by omega)
  · rename_i h;constructor
    · exact .inl
    · rintro (h1 | ⟨h1,h2⟩)
      · exact h1
      · apply Classical.byContradiction;intro h3;exact h ⟨by omega,by omega,by rw [← h2];simpa using h3⟩
theorem foldT_mem {n:Nat} {ts:List Int} {q:Nat}:∀ {acc:List Nat},q∈ts.foldl (addT n) acc↔q∈acc∨(q<n∧(q:Int)∈ts):=by
  induction ts with
  | nil=>intro acc;simp
  | cons t ts ih =>
    intro acc;rw [List.foldl_cons,ih,addT_mem,List.mem_cons];constructor
    · rintro ((h | ⟨h1,h2⟩) | ⟨h1,h2⟩)
      · exact .inl h
      · exact .inr ⟨h1,.inl h2⟩
      · exact .inr ⟨h1,.inr h2⟩
    · rintro (h | ⟨h1,h2 | h2⟩)
      · exact .inl (.inl h)
      · exact .inl (.inr ⟨h1,h2⟩)
      · exact .inr ⟨h1,h2⟩
theorem nextN_mem {n:Nat} {ts:List Int} {q:Nat}:q∈nextN n ts↔q<n∧(q:Int)∈ts:=by
  unfold nextN;rw [foldT_mem];simp
theorem nextN_snoc (n:Nat) (ts:List Int) (t:Int):nextN n (ts++[t])=addT n (nextN n ts) t:=by
  unfold nextN;rw [List.foldl_append];rfl
theorem addT_nodup {n:Nat} {acc:List Nat} {t:Int} (h:acc.Nodup):(addT n acc t).Nodup:=by
  unfold addT
  split
  · rename_i h2;rw [List.nodup_append];exact ⟨h,by simp,fun a ha b hb e=>h2.2.2 (by rw [List.mem_singleton.1 hb] at e;rw [← e];exact ha)⟩
  · exact h
theorem nextN_nodup (n:Nat) (ts:List Int):(nextN n ts).Nodup:=by
  have key:∀ (ts:List Int) (acc:List Nat),acc.Nodup→(ts.foldl (addT n) acc).Nodup:=by
    intro ts
    induction ts with
    | nil=>exact fun _ h=>h
    | cons t ts ih=>exact fun acc h=>ih _ (addT_nodup h)
  exact key ts [] (by simp)
theorem nextN_few (n:Nat) (ts:List Int):(nextN n ts).length≤n:=by
  have h:=List.Nodup.length_le_of_subset (nextN_nodup n ts) (l₂:=List.range n) (fun x hx=>List.mem_range.2 (nextN_mem.1 hx).1);simpa using h
structure DS where
  seen:Nat→Bool
  out:List Nat
def mark (S:Nat→Bool) (b:Nat):Nat→Bool:=fun x=>if x=b then true else S x
def goL (v:Nat→DS→DS) (l:List Nat) (s:DS):DS:=l.foldl (fun s t=>if s.seen t=true then s else v t s) s
def endD (b:Nat) (s:DS):DS:=⟨s.seen,s.out++[b]⟩
def visit (nx:Nat→List Nat):Nat→Nat→DS→DS
  | 0,_,s=>s
  | F+1,b,s=>endD b (goL (visit nx F) (nx b) ⟨mark s.seen b,s.out⟩)
def rest (nx:Nat→List Nat) (F b:Nat) (l:List Nat) (s:DS):DS:=endD b (goL (visit nx F) l s)
theorem visit_succ (nx:Nat→List Nat) (F b:Nat) (s:DS):visit nx (F+1) b s=rest nx F b (nx b) ⟨mark s.seen b,s.out⟩:=rfl
theorem rest_nil (nx:Nat→List Nat) (F b:Nat) (s:DS):rest nx F b [] s=endD b s:=rfl
theorem rest_seen (nx:Nat→List Nat) (F b t:Nat) (l:List Nat) (s:DS) (h:s.seen t=true):rest nx F b (t::l) s=rest nx F b l s:=by
  unfold rest goL;rw [List.foldl_cons,if_pos h]
theorem rest_new (nx:Nat→List Nat) (F b t:Nat) (l:List Nat) (s:DS) (h:s.seen t=false):rest nx F b (t::l) s=rest nx F b l (visit nx F t s):=by
  unfold rest goL;rw [List.foldl_cons,if_neg (by rw [h];exact Bool.false_ne_true)]
def qP (n:Nat) (S:Nat→Bool):Nat:=(List.range n).countP fun i=>!S i
theorem unseen_le (n:Nat) (S:Nat→Bool):qP n S≤n:=by
  have:=List.countP_le_length (p:=fun i=>!S i) (l:=List.range n);simpa [qP] using this
theorem countP_mono_list {l:List Nat} {p q:Nat→Bool} (h:∀ x∈l,p x=true→q x=true):l.countP p≤l.countP q:=List.countP_mono_left h
theorem unseen_mono {n:Nat} {S S':Nat→Bool} (h:∀ x,S x=true→S' x=true):qP n S'≤qP n S:=by
  refine countP_mono_list fun x _ hx=>?_;cases hs:S x
  · rfl
  · rw [h x hs] at hx;cases hx
theorem countP_mark {S:Nat→Bool} {b:Nat} (hS:S b=false):∀ {l:List Nat},l.Nodup→b∈l→(l.countP fun i=>!S i)=(l.countP fun i=>!mark S b i)+1:=by
  intro l
  induction l with
  | nil=>intro _ h;cases h
  | cons x l ih =>
    intro hn hb;rw [List.nodup_cons] at hn
    by_cases e:x=b
    · subst e;have h2:(l.countP fun i=>!S i)=l.countP fun i=>!mark S x i:=by
        refine List.countP_congr fun y hy=>?_;have:y≠x:=fun e=>hn.1 (e ▸ hy);simp [mark,this]
      rw [List.countP_cons,List.countP_cons,h2,hS];simp [mark]
    · have hb2:b∈l:=by
        rcases List.mem_cons.1 hb with h | h
        · exact absurd h.symm e
        · exact h
      rw [List.countP_cons,List.countP_cons,ih hn.2 hb2];simp [mark,e];omega
theorem qy {n b:Nat} {S:Nat→Bool} (hS:S b=false) (hb:b<n):qP n S=qP n (mark S b)+1 :=
  countP_mark hS List.nodup_range (List.mem_range.2 hb)
theorem unseen_pos {n b:Nat} {S:Nat→Bool} (hS:S b=false) (hb:b<n):0<qP n S:=by rw [qy hS hb];omega
theorem mark_same (S:Nat→Bool) (b:Nat):mark S b b=true:=by simp [mark]
theorem mark_of {S:Nat→Bool} {b x:Nat} (h:S x=true):mark S b x=true:=by simp [mark,h]
theorem mark_cases {S:Nat→Bool} {b x:Nat} (h:mark S b x=true):x=b∨S x=true:=by
  unfold mark at h;split at h
  · exact .inl ‹_›
  · exact .inr h
inductive Reach (nx:Nat→List Nat) (a:Nat):Nat→Prop
  | refl:Reach nx a a
  | step {x y:Nat}:Reach nx a x→y∈nx x→Reach nx a y
theorem Reach.trans {nx:Nat→List Nat} {a b c:Nat} (h:Reach nx a b) (k:Reach nx b c):Reach nx a c:=by
  induction k with
  | refl=>exact h
  | step _ hy ih=>exact .step ih hy
def Led (nx:Nat→List Nat) (e:List Nat) (b:Nat):Prop:=∀ (i x:Nat),e[i]?=some x→x∈nx b∨∃ j y:Nat,i<j∧e[j]?=some y∧x∈nx y
structure Went (nx:Nat→List Nat) (b:Nat) (s s':DS) (e:List Nat):Prop where
  out:s'.out=s.out++e
  nodup:e.Nodup
  mem:∀ x,x∈e↔(s'.seen x=true∧s.seen x=false)
  grows:∀ x,s.seen x=true→s'.seen x=true
  reach:∀ x∈e,Reach nx b x
  closed:∀ x∈e,∀ t∈nx x,s'.seen t=true
theorem Went.refl (nx:Nat→List Nat) (b:Nat) (s:DS):Went nx b s s [] :=
  ⟨by simp,by simp,fun x=>⟨fun h=>(by cases h),fun ⟨h1,h2⟩=>by rw [h1] at h2;cases h2⟩,fun _ h=>h,fun x h=>(by cases h),fun x h=>(by cases h)⟩
theorem Went.trans {nx:Nat→List Nat} {b:Nat} {s s1 s2:DS} {e1 e2:List Nat} (h:Went nx b s s1 e1) (k:Went nx b s1 s2 e2):Went nx b s s2 (e1++e2):=by
  refine ⟨by rw [k.out,h.out,List.append_assoc],?_,fun x=>?_,fun x hx=>k.grows x (h.grows x hx),fun x hx=>?_,fun x hx=>?_⟩
  · rw [List.nodup_append];refine ⟨h.nodup,k.nodup,fun a ha c hc e=>?_⟩;subst e;have h1:=((h.mem a).1 ha).1;have h2:=((k.mem a).1 hc).2;rw [h1] at h2;cases h2
  · rw [List.mem_append,h.mem,k.mem];constructor
    · rintro (⟨h1,h2⟩ | ⟨h1,h2⟩)
      · exact ⟨k.grows x h1,h2⟩
      · refine ⟨h1,?_⟩;cases h3:s.seen x
        · rfl
        · rw [h.grows x h3] at h2;cases h2
    · rintro ⟨h1,h2⟩;cases h3:s1.seen x
      · exact .inr ⟨h1,rfl⟩
      · exact .inl ⟨rfl,h2⟩
  · rcases List.mem_append.1 hx with hx | hx
    · exact h.reach x hx
    · exact k.reach x hx
  · rcases List.mem_append.1 hx with hx | hx
    · exact fun t ht=>k.grows t (h.closed x hx t ht)
    · exact k.closed x hx
theorem Led.nil (nx:Nat→List Nat) (b:Nat):Led nx [] b:=fun i x h=>by simp at h
theorem Led.trans {nx:Nat→List Nat} {b:Nat} {e1 e2:List Nat} (h:Led nx e1 b) (k:Led nx e2 b):Led nx (e1++e2) b:=fun i x hi=>by
  by_cases hl:i<e1.length
  · rw [List.getElem?_append_left hl] at hi;rcases h i x hi with h1 | ⟨j,y,hj,hy,hxy⟩
    · exact .inl h1
    · have hjl:j<e1.length:=(List.getElem?_eq_some_iff.1 hy).1;exact .inr ⟨j,y,hj,by rw [List.getElem?_append_left hjl];exact hy,hxy⟩
  · rw [List.getElem?_append_right (by omega)] at hi;rcases k _ x hi with h1 | ⟨j,y,hj,hy,hxy⟩
    · exact .inl h1
    · exact .inr ⟨j+e1.length,y,by omega,by rw [List.getElem?_append_right (by omega)];simpa using hy,hxy⟩
theorem Led.child {nx:Nat→List Nat} {b t:Nat} {e:List Nat} (h:Led nx e t) (ht:t∈nx b):Led nx (e++[t]) b:=fun i x hi=>by
  by_cases hil:i<e.length
  · rw [List.getElem?_append_left hil] at hi;rcases h i x hi with h1 | ⟨j,y,hj,hy,hxy⟩
    · exact .inr ⟨e.length,t,hil,by simp,h1⟩
    · exact .inr ⟨j,y,hj,by rw [List.getElem?_append_left (List.getElem?_eq_some_iff.1 hy).1];exact hy,hxy⟩
  · (have:i=e.length:=by have:=(List.getElem?_eq_some_iff.1 hi).1;simp at this;omega);subst this;simp at hi;exact .inl (hi ▸ ht)
theorem went_list {nx:Nat→List Nat} {n F b:Nat} (hnx:∀ x,∀ t∈nx x,t<n)
    (ih:∀ t s,t<n→s.seen t=false→qP n s.seen≤F→∃ e,Went nx t s (visit nx F t s) (e++[t])∧Led nx e t) :
    ∀ (l:List Nat) (s:DS),(∀ t∈l,t∈nx b)→qP n s.seen≤F→∃ e,Went nx b s (goL (visit nx F) l s) e∧Led nx e b∧∀ t∈l,(goL (visit nx F) l s).seen t=true:=by
  intro l
  induction l with
  | nil=>intro s _ _;exact ⟨[],Went.refl _ _ _,Led.nil _ _,fun t ht=>by cases ht⟩
  | cons t l ihl =>
    intro s hl hu;have htb:=hl t (by simp);cases hs:s.seen t
    · obtain ⟨e,he,hld⟩:=ih t s (hnx b t htb) hs hu;have hw:Went nx b s (visit nx F t s) (e++[t]):=⟨he.out,he.nodup,he.mem,he.grows,fun x hx=>(Reach.step .refl htb).trans (he.reach x hx),he.closed⟩;obtain ⟨e2,h2,hl2,h3⟩:=ihl (visit nx F t s) (fun x hx=>hl x (by simp [hx])) (Nat.le_trans (unseen_mono hw.grows) hu);have hgo:goL (visit nx F) (t::l) s=goL (visit nx F) l (visit nx F t s):=by
        unfold goL;rw [List.foldl_cons,if_neg (by rw [hs];exact Bool.false_ne_true)]
      rw [hgo];refine ⟨e++[t]++e2,hw.trans h2,(hld.child htb).trans hl2,?_⟩;intro x hx;rcases List.mem_cons.1 hx with rfl | hx
      · exact h2.grows _ ((he.mem x).1 (by simp)).1
      · exact h3 x hx
    · obtain ⟨e2,h2,hl2,h3⟩:=ihl s (fun x hx=>hl x (by simp [hx])) hu;have hgo:goL (visit nx F) (t::l) s=goL (visit nx F) l s:=by
        unfold goL;rw [List.foldl_cons,if_pos hs]
      rw [hgo];refine ⟨e2,h2,hl2,?_⟩;intro x hx;rcases List.mem_cons.1 hx with rfl | hx
      · exact h2.grows _ hs
      · exact h3 x hx
theorem went_visit {nx:Nat→List Nat} {n:Nat} (hnx:∀ x,∀ t∈nx x,t<n):∀ (F b:Nat) (s:DS),b<n→s.seen b=false→qP n s.seen≤F→∃ e,Went nx b s (visit nx F b s) (e++[b])∧Led nx e b:=by
  intro F
  induction F with
  | zero=>intro b s hb hs hu;have:=unseen_pos hs hb;omega
  | succ F ih =>
    intro b s hb hs hu;have hm:=qy hs hb;(obtain ⟨e,he,hld,hall⟩:=went_list (b:=b) hnx ih (nx b) ⟨mark s.seen b,s.out⟩ (fun t ht=>ht) (by show qP n (mark s.seen b)≤F;omega));(have hbe:b ∉ e:=fun h=>by have:=((he.mem b).1 h).2;simp [mark] at this);refine ⟨e,⟨?_,?_,fun x=>?_,fun x hx=>?_,fun x hx=>?_,fun x hx=>?_⟩,hld⟩
    · show (goL (visit nx F) (nx b) ⟨mark s.seen b,s.out⟩).out++[b]=_;rw [he.out,List.append_assoc]
    · rw [List.nodup_append];exact ⟨he.nodup,by simp,fun a ha c hc ec=>hbe (by rw [List.mem_singleton.1 hc] at ec;exact ec ▸ ha)⟩
    · show x∈e++[b]↔((goL (visit nx F) (nx b) ⟨mark s.seen b,s.out⟩).seen x=true∧s.seen x=false);rw [List.mem_append,List.mem_singleton,he.mem];constructor
      · rintro (⟨h1,h2⟩ | rfl)
        · refine ⟨h1,?_⟩;cases h3:s.seen x
          · rfl
          · rw [show (DS.mk (mark s.seen b) s.out).seen x=true from mark_of h3] at h2;cases h2
        · exact ⟨he.grows _ (mark_same _ _),hs⟩
      · rintro ⟨h1,h2⟩
        by_cases exb:x=b
        · exact .inr exb
        · exact .inl ⟨h1,by show mark s.seen b x=false;simp [mark,exb,h2]⟩
    · exact he.grows x (mark_of hx)
    · rcases List.mem_append.1 hx with hx | hx
      · exact he.reach x hx
      · rw [List.mem_singleton.1 hx];exact .refl
    · rcases List.mem_append.1 hx with hx | hx
      · exact he.closed x hx
      · rw [List.mem_singleton.1 hx];exact hall
theorem len_list {nx:Nat→List Nat} {n F:Nat} (ih:∀ t s,t<n→s.seen t=false→qP n s.seen≤F→(visit nx F t s).out.length+qP n (visit nx F t s).seen=s.out.length+qP n s.seen∧qP n (visit nx F t s).seen≤F) :
    ∀ (l:List Nat) (s:DS),(∀ t∈l,t<n)→qP n s.seen≤F→(goL (visit nx F) l s).out.length+qP n (goL (visit nx F) l s).seen=s.out.length+qP n s.seen∧qP n (goL (visit nx F) l s).seen≤F:=by
  intro l
  induction l with
  | nil=>intro s _ hu;exact ⟨rfl,hu⟩
  | cons t l ihl =>
    intro s hl hu;cases hs:s.seen t
    · have hgo:goL (visit nx F) (t::l) s=goL (visit nx F) l (visit nx F t s):=by
        unfold goL;rw [List.foldl_cons,if_neg (by rw [hs];exact Bool.false_ne_true)]
      rw [hgo];obtain ⟨h1,h2⟩:=ih t s (hl t (by simp)) hs hu;obtain ⟨h3,h4⟩:=ihl (visit nx F t s) (fun x hx=>hl x (by simp [hx])) h2;exact ⟨h3.trans h1,h4⟩
    · have hgo:goL (visit nx F) (t::l) s=goL (visit nx F) l s:=by
        unfold goL;rw [List.foldl_cons,if_pos hs]
      rw [hgo];exact ihl s (fun x hx=>hl x (by simp [hx])) hu
theorem len_visit {nx:Nat→List Nat} {n:Nat} (hnx:∀ x,∀ t∈nx x,t<n):∀ (F b:Nat) (s:DS),b<n→s.seen b=false→qP n s.seen≤F→(visit nx F b s).out.length+qP n (visit nx F b s).seen=s.out.length+qP n s.seen∧qP n (visit nx F b s).seen≤F - 1:=by
  intro F
  induction F with
  | zero=>intro b s hb hs hu;have:=unseen_pos hs hb;omega
  | succ F ih =>
    intro b s hb hs hu;have hm:=qy hs hb;(obtain ⟨h1,h2⟩:=len_list (nx:=nx) (n:=n) (F:=F) (fun t s h1 h2 h3=>by have:=ih t s h1 h2 h3;omega) (nx b) ⟨mark s.seen b,s.out⟩ (hnx b) (by show qP n (mark s.seen b)≤F;omega));have h3:(visit nx (F+1) b s).out.length=(goL (visit nx F) (nx b) ⟨mark s.seen b,s.out⟩).out.length+1:=by
      show ((goL (visit nx F) (nx b) ⟨mark s.seen b,s.out⟩).out++[b]).length=_;simp
    have h4:(visit nx (F+1) b s).seen=(goL (visit nx F) (nx b) ⟨mark s.seen b,s.out⟩).seen:=rfl;rw [h3,h4];have h1':(goL (visit nx F) (nx b) ⟨mark s.seen b,s.out⟩).out.length+qP n (goL (visit nx F) (nx b) ⟨mark s.seen b,s.out⟩).seen=s.out.length+qP n (mark s.seen b):=h1;omega
def qZ:Nat→Bool:=fun _=>false
def doneL (nx:Nat→List Nat) (n:Nat):List Nat:=if n=0 then [] else (visit nx n 0 ⟨qZ,[]⟩).out
def orderL (nx:Nat→List Nat) (n:Nat):List Nat:=(doneL nx n).reverse
theorem doneL_went {nx:Nat→List Nat} {n:Nat} (hnx:∀ x,∀ t∈nx x,t<n) (hn:n≠0) :
    ∃ e,doneL nx n=e++[0]∧Led nx e 0∧(e++[0]).Nodup∧∀ x,x∈e++[0]↔Reach nx 0 x:=by
  obtain ⟨e,h,hl⟩:=went_visit hnx n 0 ⟨qZ,[]⟩ (by omega) rfl (unseen_le _ _);refine ⟨e,by unfold doneL;rw [if_neg hn,h.out];rfl,hl,h.nodup,fun x=>⟨h.reach x,fun hr=>?_⟩⟩
  induction hr with
  | refl=>simp
  | step _ hy ih=>exact (h.mem _).2 ⟨h.closed _ ih _ hy,rfl⟩
theorem Reach.lt {nx:Nat→List Nat} {n x:Nat} (hnx:∀ x,∀ t∈nx x,t<n) (hn:n≠0) (h:Reach nx 0 x):x<n:=by
  cases h with
  | refl=>omega
  | step _ hy=>exact hnx _ _ hy
theorem orderL_mem {nx:Nat→List Nat} {n:Nat} (hnx:∀ x,∀ t∈nx x,t<n) (hn:n≠0) {x:Nat}:x∈orderL nx n↔Reach nx 0 x:=by
  obtain ⟨e,h1,_,_,h2⟩:=doneL_went hnx hn;unfold orderL;rw [List.mem_reverse,h1];exact h2 x
theorem orderL_lt {nx:Nat→List Nat} {n:Nat} (hnx:∀ x,∀ t∈nx x,t<n) {x:Nat} (h:x∈orderL nx n):x<n:=by
  by_cases hn:n=0
  · subst hn;simp [orderL,doneL] at h
  · exact Reach.lt hnx hn ((orderL_mem hnx hn).1 h)
theorem orderL_nodup {nx:Nat→List Nat} {n:Nat} (hnx:∀ x,∀ t∈nx x,t<n):(orderL nx n).Nodup:=by
  by_cases hn:n=0
  · subst hn;simp [orderL,doneL]
  · obtain ⟨e,h1,_,h2,_⟩:=doneL_went hnx hn;unfold orderL;rw [h1,List.nodup_iff_count];intro a;rw [List.count_reverse];exact List.nodup_iff_count.1 h2 a
def reachB (nx:Nat→List Nat) (n x:Nat):Bool:=decide (x∈orderL nx n)
theorem orderL_len {nx:Nat→List Nat} {n:Nat} (hnx:∀ x,∀ t∈nx x,t<n):(orderL nx n).length≤n:=by
  have h:=List.Nodup.length_le_of_subset (orderL_nodup hnx) (l₂:=List.range n) (fun x hx=>List.mem_range.2 (orderL_lt hnx hx));simpa using h
def updF {α:Type} (f:Nat→α) (k:Nat) (x:α):Nat→α:=fun v=>if v=k then x else f v
theorem qB {α:Type} (f:Nat→α) (k:Nat) (x:α):updF f k x k=x:=by simp [updF]
theorem q9 {α:Type} (f:Nat→α) {k v:Nat} (x:α) (h:v≠k):updF f k x v=f v:=by simp [updF,h]
theorem AncP.congr {par par':Nat→Nat} {k a c:Nat} (h:AncP par a c) (hc:c<k) (hlt:∀ v,0<v→v<k→par v<v) (he:∀ v,v<k→par' v=par v):AncP par' a c:=by
  induction h with
  | refl=>exact .refl
  | @step v h0 _ ih =>
    have:=hlt _ h0 hc;exact .step h0 (by rw [he _ hc];exact ih (by omega))
structure TvI (nx:Nat→List Nat) (n k:Nat) (bl par:Nat→Nat) (ah:Nat→List Nat) (pl:Nat→Int) (op:List (Int × Nat)) (g:Nat):Prop where
  plc:∀ b,b<n→pl b=-1∨∃ p,p<k∧pl b=(p:Int)∧bl p=b
  blk:∀ p,p<k→bl p<n∧pl (bl p)=(p:Int)
  parl:∀ v,0<v→v<k→par v<v∧bl v∈nx (bl (par v))
  up:∀ u v,u<v→v<k→bl v∈nx (bl u)→AncP par u v
  mid:∀ a b c,AncP par a c→c<k→a≤b→b≤c→AncP par a b
  opn:∀ e∈op,e.2<n∧((e.1=-1∧k=0∧e.2=0)∨∃ u:Nat,u<k∧e.1=(u:Int)∧e.2∈nx (bl u)∧AncP par u (k - 1))
  sort:op.Pairwise (fun e e'=>e.1≤e'.1)
  done:∀ u,u<k→∀ t∈nx (bl u),((u:Int),t)∈op∨∃ p:Nat,pl t=(p:Int)∧u∈ah p
  ahd:∀ p,p<k→∀ u∈ah p,u<k∧bl p∈nx (bl u)
  first:(0<k→bl 0=0)∧(k=0→op=[(-1,0)])
  kn:k≤n
  num:g=(n - k) * (n+1)+op.length
  few:∀ p,p<k→(ah p).length+g≤n * (n+1)+1
variable {nx:Nat→List Nat} {n k:Nat} {bl par:Nat→Nat} {ah:Nat→List Nat} {pl:Nat→Int} {op:List (Int × Nat)} {g:Nat}
theorem TvI.start (nx:Nat→List Nat) {n:Nat} (hn:0<n) (bl par:Nat→Nat) (ah:Nat→List Nat):TvI nx n 0 bl par ah (fun _=>-1) [(-1,0)] (n * (n+1)+1) :=
  ⟨fun _ _=>.inl rfl,fun p h=>by omega,fun v h1 h2=>by omega,fun u v h1 h2=>by omega,fun a b c _ h=>by omega,
   fun e he=>by rw [List.mem_singleton.1 he];exact ⟨hn,.inl ⟨rfl,rfl,rfl⟩⟩,by simp,fun u h=>by omega,fun p h=>by omega,⟨fun h=>by omega,fun _=>rfl⟩,by omega,by simp,fun p h=>by omega⟩
theorem TvI.placed (h:TvI nx n k bl par ah pl op g) {b:Nat} (hb:b<n) (hp:0≤pl b):∃ p,p<k∧pl b=(p:Int)∧bl p=b:=by
  rcases h.plc b hb with h1 | h1
  · omega
  · exact h1
theorem mem_op {op:List (Int × Nat)} {e x:Int × Nat} (h:x∈op++[e]):x∈op∨x=e:=by simpa using h
theorem TvI.old {e:Int × Nat} (h:TvI nx n k bl par ah pl (op++[e]) g) {p:Nat} (hp:pl e.2=(p:Int)) :
    ∃ u:Nat,e.1=(u:Int)∧p<k∧u<k∧∃ g',g'<g∧TvI nx n k bl par (updF ah p (ah p++[u])) pl op g':=by
  obtain ⟨he2,he⟩:=h.opn e (by simp);obtain ⟨p',hp',hpe,hbl⟩:=h.placed he2 (by omega);(obtain rfl:p'=p:=by omega);rcases he with ⟨h1,h2,h3⟩ | ⟨u,hu,hue,hun,hua⟩
  · omega
  (refine ⟨u,hue,hp',hu,g - 1,by have:=h.num;simp at this;omega,?_⟩);refine ⟨h.plc,h.blk,h.parl,h.up,h.mid,fun x hx=>h.opn x (by simp [hx]),(List.pairwise_append.1 h.sort).1,fun v hv t ht=>?_,fun q hq x hx=>?_,⟨h.first.1,fun h0=>by omega⟩,h.kn,by have:=h.num;simp at this ⊢;omega,fun q hq=>?_⟩
  · rcases h.done v hv t ht with h1 | ⟨q,h1,h2⟩
    · rcases mem_op h1 with h1 | h1
      · exact .inl h1
      · right;(have h3:(v:Int)=e.1:=by rw [← h1]);(have h4:t=e.2:=by rw [← h1]);(refine ⟨p',by rw [h4];exact hp,?_⟩);rw [qB];(have:v=u:=by omega);subst this;simp
    · right;refine ⟨q,h1,?_⟩
      by_cases e:q=p'
      · subst e;rw [qB];simp [h2]
      · rw [q9 _ _ e];exact h2
  · by_cases e1:q=p'
    · subst e1;rw [qB] at hx;rcases List.mem_append.1 hx with hx | hx
      · exact h.ahd q hq x hx
      · rw [List.mem_singleton.1 hx,hbl];exact ⟨hu,hun⟩
    · rw [q9 _ _ e1] at hx;exact h.ahd q hq x hx
  · have h1:=h.few q hq;have h2:=h.num
    by_cases e1:q=p'
    · subst e1;rw [qB];simp at h2 ⊢;omega
    · rw [q9 _ _ e1];omega
theorem TvI.new {e:Int × Nat} (h:TvI nx n k bl par ah pl (op++[e]) g) (hnx:∀ x,∀ t∈nx x,t<n) (hlen:∀ x,(nx x).length≤n) (hp:pl e.2=-1) :
    k<n∧e.2<n∧∃ g',g'<g∧TvI nx n (k+1) (updF bl k e.2) (updF par k e.1.toNat) (updF ah k (if e.1<0 then [] else [e.1.toNat])) (updF pl e.2 k) (op++(nx e.2).map fun t=>((k:Int),t)) g':=by
  obtain ⟨he2,he⟩:=h.opn e (by simp);have hk:k<n:=by
    apply Classical.byContradiction;intro hk
    -- all places would be taken
    (have hkn:k=n:=by have:=h.kn;omega);have hinj:((List.range k).map bl).Nodup:=by
      rw [List.nodup_iff_pairwise_ne,List.pairwise_map];refine List.Pairwise.imp_of_mem (fun {a b} ha hb hab hh=>?_) (List.nodup_range (n:=k));have h1:=h.blk a (List.mem_range.1 ha);have h2:=h.blk b (List.mem_range.1 hb);rw [hh] at h1;exact hab (by omega)
    have hni:e.2 ∉ (List.range k).map bl:=fun hm=>by
      obtain ⟨a,ha,hb⟩:=List.mem_map.1 hm;have:=h.blk a (List.mem_range.1 ha);rw [hb] at this;omega
    have:=List.Nodup.length_le_of_subset (List.nodup_cons.2 ⟨hni,hinj⟩) (l₂:=List.range n) (fun x hx=>by
      rcases List.mem_cons.1 hx with rfl | hx
      · exact List.mem_range.2 he2
      · obtain ⟨a,ha,rfl⟩:=List.mem_map.1 hx
        exact List.mem_range.2 (h.blk a (List.mem_range.1 ha)).1)
    simp at this;omega
  (have hne:∀ p,p<k→bl p≠e.2:=fun p hpk hh=>by have:=(h.blk p hpk).2;rw [hh] at this;omega);have hcg:∀ {a c:Nat},AncP par a c→c<k→AncP (updF par k e.1.toNat) a c:=fun ha hc=>ha.congr hc (fun v h1 h2=>(h.parl v h1 h2).1) (fun v hv=>q9 _ _ (by omega));(have hcg':∀ {a c:Nat},AncP (updF par k e.1.toNat) a c→c<k→AncP par a c:=fun ha hc=>ha.congr hc (fun v h1 h2=>by rw [q9 _ _ (by omega)];exact (h.parl v h1 h2).1) (fun v hv=>(q9 _ _ (by omega)).symm));have hle:∀ {a c:Nat},AncP par a c→c<k→a≤c:=by
    intro a c ha
    induction ha with
    | refl=>intro _;omega
    | @step v h0 _ ih=>intro hv;have:=(h.parl v h0 hv).1;have:=ih (by omega);omega
  -- the new one's tree
  have htop:0<k→e.1.toNat<k∧AncP par e.1.toNat (k - 1)∧e.2∈nx (bl e.1.toNat)∧0≤e.1:=fun h0=>by
    rcases he with ⟨_,h2,_⟩ | ⟨u,hu,hue,hun,hua⟩
    · omega
    · (have:e.1.toNat=u:=by omega);rw [this];exact ⟨hu,hua,hun,by omega⟩
  have hsort:∀ x∈op,x.1≤e.1:=fun x hx=>(List.pairwise_append.1 h.sort).2.2 x hx e (by simp);have hop0:k=0→op=[]∧e=(-1,0):=fun h0=>by
    have h1:=h.first.2 h0;have h2:op=[]:=by
      have:=congrArg List.length h1;simp at this;exact this
    subst h2;simpa using h1
  -- whoever is above the last and not behind the top is above the new one
  have hanc:∀ u,u<k→AncP par u (k - 1)→(u:Int)≤e.1→AncP (updF par k e.1.toNat) u k:=fun u hu ha hle'=>by
    obtain ⟨h1,h2,h3,h4⟩:=htop (by omega);refine .step (by omega) ?_;rw [qB];exact hcg (h.mid _ _ _ ha (by omega) (by omega) (by omega)) h1
  have hg:=h.num;have hgle:(n - k) * (n+1)=(n - (k+1)) * (n+1)+(n+1):=by
    rw [← Nat.succ_mul];congr 1;omega
  have hl2:=hlen e.2;(refine ⟨hk,he2,(n - (k+1)) * (n+1)+(op.length+(nx e.2).length),by simp at hg;omega,?_⟩);refine ⟨fun b hb=>?_,fun p hpk=>?_,fun v h0 hv=>?_,fun u v huv hv hE=>?_,fun a b c ha hc hab hbc=>?_,fun x hx=>?_,?_,fun u hu t ht=>?_,fun p hpk x hx=>?_,⟨fun _=>?_,fun h0=>by omega⟩,by omega,by simp,fun p hpk=>?_⟩
  · by_cases e1:b=e.2
    · subst e1;right;exact ⟨k,by omega,qB _ _ _,qB _ _ _⟩
    · rw [q9 _ _ e1];rcases h.plc b hb with h1 | ⟨p,h1,h2,h3⟩
      · exact .inl h1
      · exact .inr ⟨p,by omega,h2,by rw [q9 _ _ (by omega)];exact h3⟩
  · by_cases e1:p=k
    · subst e1;rw [qB];exact ⟨he2,qB _ _ _⟩
    · (have hpk':p<k:=by omega);rw [q9 _ _ e1,q9 _ _ (hne p hpk')];exact h.blk p hpk'
  · by_cases e1:v=k
    · subst e1;obtain ⟨h1,h2,h3,h4⟩:=htop h0;rw [qB,qB,q9 _ _ (by omega)];exact ⟨h1,h3⟩
    · have:=h.parl v h0 (by omega);rw [q9 _ _ e1,q9 _ _ e1,q9 _ _ (by omega)];exact this
  · by_cases e1:v=k
    · subst e1;rw [qB,q9 _ _ (by omega)] at hE;rcases h.done u huv _ hE with h1 | ⟨p,h1,h2⟩
      · rcases mem_op h1 with h1 | h1
        · obtain ⟨-,hq⟩:=h.opn ((u:Int),e.2) (List.mem_append_left _ h1);rcases hq with ⟨h2,_⟩ | ⟨u',hu',hue',_,hua'⟩
          · have h2:(u:Int)=-1:=h2;omega
          · have hue':(u:Int)=(u':Int):=hue';(have:u'=u:=by omega);subst this;exact hanc _ huv hua' (hsort _ h1)
        · obtain ⟨h2,h3,-,-⟩:=htop (by omega);(have h4:(u:Int)=e.1:=by rw [← h1]);(have:e.1.toNat=u:=by omega);rw [this] at h3;exact hanc u huv h3 (by omega)
      · omega
    · rw [q9 _ _ e1,q9 _ _ (by omega)] at hE;exact hcg (h.up u v huv (by omega) hE) (by omega)
  · by_cases e1:c=k
    · subst e1
      by_cases e2:b=c
      · subst e2;exact ha
      · cases ha with
        | refl=>omega
        | step h0 ha =>
          obtain ⟨h1,h2,h3,h4⟩:=htop (by omega);rw [qB] at ha;have ha':=hcg' ha h1;have ha2:=ha'.trans h2;exact hcg (h.mid a b (c - 1) ha2 (by omega) hab (by omega)) (by omega)
    · exact hcg (h.mid a b c (hcg' ha (by omega)) (by omega) hab hbc) (by omega)
  · rcases List.mem_append.1 hx with hx | hx
    · obtain ⟨h1,h2⟩:=h.opn x (by simp [hx]);refine ⟨h1,?_⟩;rcases h2 with ⟨_,h3,_⟩ | ⟨u,hu,hue,hun,hua⟩
      · rw [(hop0 h3).1] at hx;cases hx
      · right;(refine ⟨u,by omega,hue,by rw [q9 _ _ (by omega)];exact hun,?_⟩);have:=hsort x hx;exact hanc u hu hua (by omega)
    · obtain ⟨t,ht,rfl⟩:=List.mem_map.1 hx;exact ⟨hnx _ t ht,.inr ⟨k,by omega,rfl,by rw [qB];exact ht,.refl⟩⟩
  · rw [List.pairwise_append];refine ⟨(List.pairwise_append.1 h.sort).1,?_,fun x hx y hy=>?_⟩
    · rw [List.pairwise_map];exact List.pairwise_of_forall (fun _ _=>Int.le_refl _)
    · obtain ⟨t,ht,rfl⟩:=List.mem_map.1 hy;obtain ⟨-,h2⟩:=h.opn x (by simp [hx]);rcases h2 with ⟨h3,_⟩ | ⟨u,hu,hue,_⟩
      · show x.1≤(k:Int);omega
      · show x.1≤(k:Int);omega
  · by_cases e1:u=k
    · subst e1;rw [qB] at ht;exact .inl (List.mem_append_right _ (List.mem_map.2 ⟨t,ht,rfl⟩))
    · (have hu':u<k:=by omega);rw [q9 _ _ e1] at ht;rcases h.done u hu' t ht with h1 | ⟨p,h1,h2⟩
      · rcases mem_op h1 with h1 | h1
        · exact .inl (List.mem_append_left _ h1)
        · right;(have h4:(u:Int)=e.1:=by rw [← h1]);(have h5:t=e.2:=by rw [← h1]);(refine ⟨k,by rw [h5];exact qB _ _ _,?_⟩);rw [qB,if_neg (by omega)];simp;omega
      · right;(have h3:t≠e.2:=fun e=>by rw [e] at h1;omega);(refine ⟨p,by rw [q9 _ _ h3];exact h1,?_⟩);have hpk:p<k:=by
          obtain ⟨p',h4,h5,-⟩:=h.placed (hnx _ t ht) (by omega);omega
        rw [q9 _ _ (by omega)];exact h2
  · by_cases e1:p=k
    · subst e1;rw [qB] at hx
      split at hx
      · cases hx
      · rename_i hge;have h0:0<p:=by
          rcases Nat.eq_zero_or_pos p with h0 | h0
          · rw [(hop0 h0).2] at hge;simp at hge
          · exact h0
        obtain ⟨h1,h2,h3,h4⟩:=htop h0;rw [List.mem_singleton.1 hx,qB,q9 _ _ (by omega)];exact ⟨by omega,h3⟩
    · rw [q9 _ _ e1] at hx;have:=h.ahd p (by omega) x hx;rw [q9 _ _ e1,q9 _ _ (by omega)];exact ⟨by omega,this.2⟩
  · by_cases e1:k=0
    · subst e1;rw [qB,(hop0 rfl).2]
    · rw [q9 _ _ (by omega)];exact h.first.1 (by omega)
  · have hkk:(n - k) * (n+1)≤n * (n+1):=Nat.mul_le_mul_right _ (by omega)
    by_cases e1:p=k
    · subst e1;rw [qB];(have h9:(if e.1<0 then [] else [e.1.toNat]:List Nat).length≤1:=by split <;> simp);simp at hg;rcases Nat.eq_zero_or_pos p with h6 | h6
      · subst h6;have:=(hop0 rfl).1;subst this;simp at hg ⊢;(have h10:n * (n+1)=(n - 1) * (n+1)+(n+1):=by rw [← Nat.succ_mul];congr 1;omega);omega
      · have h7:=h.few 0 h6;omega
    · rw [q9 _ _ e1];have:=h.few p (by omega);simp at hg;omega
def EdgeP (nx:Nat→List Nat) (k:Nat) (bl:Nat→Nat) (u v:Nat):Prop:=u<k∧v<k∧bl v∈nx (bl u)
structure TvE (nx:Nat→List Nat) (n k:Nat) (bl par:Nat→Nat) (ah:Nat→List Nat) (pl:Nat→Int):Prop where
  tree:TreeP k (EdgeP nx k bl) par
  plc:∀ b,b<n→pl b=-1∨∃ p,p<k∧pl b=(p:Int)∧bl p=b
  blk:∀ p,p<k→bl p<n∧pl (bl p)=(p:Int)
  ahd:∀ p,p<k→∀ u,u∈ah p↔EdgeP nx k bl u p
  reach:∀ b,b<n→(Reach nx 0 b↔0≤pl b)
  first:0<k∧bl 0=0
  kn:k≤n
  few:∀ p,p<k→(ah p).length≤n * (n+1)+1
theorem TvI.all (h:TvI nx n k bl par ah pl [] g) (hnx:∀ x,∀ t∈nx x,t<n) (hn:0<n):TvE nx n k bl par ah pl:=by
  have hk:0<k:=by
    rcases Nat.eq_zero_or_pos k with h0 | h0
    · have:=h.first.2 h0;cases this
    · exact h0
  have hdone:∀ u,u<k→∀ t∈nx (bl u),∃ p:Nat,p<k∧pl t=(p:Int)∧bl p=t∧u∈ah p:=fun u hu t ht=>by
    rcases h.done u hu t ht with h1 | ⟨p,h1,h2⟩
    · cases h1
    · obtain ⟨p',h4,h5,h6⟩:=h.placed (hnx _ t ht) (by omega);(obtain rfl:p'=p:=by omega);exact ⟨p',h4,h5,h6,h2⟩
  refine ⟨⟨fun u v h=>⟨h.1,h.2.1⟩,fun v h0 hv=>(h.parl v h0 hv).1,fun v h0 hv=>⟨by have:=(h.parl v h0 hv).1;omega,hv,(h.parl v h0 hv).2⟩,fun u v he huv=>h.up u v huv he.2.1 he.2.2,fun a b c=>h.mid a b c⟩,h.plc,h.blk,fun p hp u=>⟨fun hu=>?_,fun hu=>?_⟩,fun b hb=>⟨fun hr=>?_,fun hp=>?_⟩,⟨hk,h.first.1 hk⟩,h.kn,fun p hp=>by have:=h.few p hp;omega⟩
  · have:=h.ahd p hp u hu;exact ⟨this.1,hp,this.2⟩
  · obtain ⟨q,h1,h2,h3,h4⟩:=hdone u hu.1 _ hu.2.2;have:=(h.blk p hp).2;(obtain rfl:q=p:=by omega);exact h4
  · have key:∀ x,Reach nx 0 x→∃ p:Nat,p<k∧pl x=(p:Int)∧bl p=x:=by
      intro x hx
      induction hx with
      | refl=>exact ⟨0,hk,by have:=(h.blk 0 hk).2;rw [h.first.1 hk] at this;simpa using this,h.first.1 hk⟩
      | @step x y _ hxy ih =>
        obtain ⟨p,h1,h2,h3⟩:=ih;(obtain ⟨q,h4,h5,h6,_⟩:=hdone p h1 y (by rw [h3];exact hxy));exact ⟨q,h4,h5,h6⟩
    obtain ⟨p,-,h2,-⟩:=key b hr;omega
  · obtain ⟨p,h1,-,h3⟩:=h.placed hb hp;rw [← h3];clear h3
    induction p using Nat.strongRecOn with
    | _ p ih =>
      rcases Nat.eq_zero_or_pos p with h0 | h0
      · subst h0;rw [h.first.1 hk];exact .refl
      · obtain ⟨h4,h5⟩:=h.parl p h0 h1;exact .step (ih _ h4 (by omega)) h5
end Go.Proofs.YtfoggldjjnabcaaGreatDoor
