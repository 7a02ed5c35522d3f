/- Block 0's instructions are written anew: the function then has its zeros as instructions. -/
import Derived.Test.YtfoggldjjnabcaaSpecJ
import Derived.Test.YtfoggldjjnabcaaSpQJ
namespace Go.Proofs.Ytfoggldjjnabcaa
open Go.ChangeShapes Go.WideShapes Go.RowKit Go.Deep
set_option linter.unusedVariables false
set_option linter.unusedSimpArgs false
theorem SL.putS {α:Type} {sz bp op c k:Nat} {R R':World→Nat→Nat→α→Prop} {w w':World} {xs:List α} {y:α} (h:SL w sz R (some ⟨bp,op,none⟩) c xs)
    (hk:R' w' bp (op+k * sz) y) (ho:∀ i x,i≠k→xs[i]?=some x→R w bp (op+i * sz) x→R' w' bp (op+i * sz) x):SL w' sz R' (some ⟨bp,op,none⟩) c (xs.set k y):=by
  obtain ⟨h1,h2,h3⟩:=h;(refine ⟨by rw [List.length_set];exact h1,h2,fun hp=>?_⟩);rw [List.length_set] at hp;obtain ⟨b,o,e,hr⟩:=h3 hp;cases e;refine ⟨_,_,rfl,fun i x hi=>?_⟩;rw [List.getElem?_set] at hi
  by_cases e:k=i
  · subst e;rw [if_pos rfl] at hi
    split at hi
    · cases hi;exact hk
    · cases hi
  · rw [if_neg e] at hi;exact ho i x (fun e'=>e e'.symm) hi (hr i x hi)
theorem cinsB_of {B:Nat→Prop} {w:World} {b o:Nat} {x:InsD} (h:RInsB B w b o x):∃ cs,cs.length=5∧CIns B w x cs∧(∀ j u,cs[j]?=some u→w.cell? ⟨b,o+j,none⟩=some u)∧∀ u∈cs,u.oneCell'=true:=by
  obtain ⟨-,⟨h0,g0⟩,⟨h1,g1⟩,⟨A,c,h2,hs⟩,⟨h3,g3⟩,⟨h4,g4⟩⟩:=h;refine ⟨[.int .i64 x.op,.int .i64 x.dst,.slice A x.args.length c,.int .i64 x.imm,.int .i64 x.fn],rfl,⟨A,c,rfl,hs,g0,g1,g3,g4⟩,fun j u hu=>?_,fun u hu=>?_⟩
  · match j,hu with
    | 0,hu=>obtain rfl:=Option.some.inj hu;exact h0
    | 1,hu=>obtain rfl:=Option.some.inj hu;exact h1
    | 2,hu=>obtain rfl:=Option.some.inj hu;exact h2
    | 3,hu=>obtain rfl:=Option.some.inj hu;exact h3
    | 4,hu=>obtain rfl:=Option.some.inj hu;exact h4
  · simp only [List.mem_cons,List.not_mem_nil,or_false] at hu;rcases hu with rfl | rfl | rfl | rfl | rfl <;> rfl
theorem insB_news {B:Nat→Prop} {w:World} {b:Nat}:∀ (xs:List InsD) (o:Nat),(∀ i x,xs[i]?=some x→RInsB B w b (o+i * 5) x) →
    ∃ cs,Rows 5 (CIns B w) xs cs∧(∀ j u,cs[j]?=some u→w.cell? ⟨b,o+j,none⟩=some u)∧∀ u∈cs,u.oneCell'=true
  | [],o,_=>⟨[],rfl,fun j u h=>by simp at h,fun u h=>by simp at h⟩
  | x::xs,o,h=>by
    obtain ⟨c,hl,hc,hcell,hone⟩:=cinsB_of (by simpa using h 0 x rfl);(obtain ⟨cs,hr,hcell2,hone2⟩:=insB_news xs (o+5) (fun i y hy=>by have:=h (i+1) y (by simpa using hy);rwa [show o+(i+1) * 5=o+5+i * 5 by omega] at this));refine ⟨c++cs,⟨c,cs,rfl,hl,hc,hr⟩,fun j u hu=>?_,fun u hu=>?_⟩
    · by_cases hj:j<5
      · rw [List.getElem?_append_left (by omega)] at hu;exact hcell j u hu
      · rw [List.getElem?_append_right (by omega),hl] at hu;have:=hcell2 (j - 5) u hu
        rwa [show o+5+(j - 5)=o+j by omega] at this
    · rcases List.mem_append.1 hu with hu | hu
      · exact hone u hu
      · exact hone2 u hu
theorem Rows.app {α:Type} {sz:Nat} {F:α→List Value→Prop} {l2:List α} {c2:List Value} (h2:Rows sz F l2 c2):∀ {l:List α} {c:List Value},Rows sz F l c→Rows sz F (l++l2) (c++c2)
  | [],c,h=>by obtain rfl:c=[]:=h;exact h2
  | x::l,c,⟨d,r,e,h1,h3,h4⟩=>⟨d,r++c2,by rw [e,List.append_assoc],h1,h3,Rows.app h2 h4⟩
theorem insB_src {B:Nat→Prop} {w:World} {A:Option Addr} {c:Nat} {xs:List InsD} (h:SL w 5 (RInsB B) A c xs):∃ cs,Rows 5 (CIns B w) xs cs∧SrcI w (.slice A xs.length c) xs.length cs:=by
  obtain ⟨h1,h2,h3⟩:=h
  by_cases hx:xs.length=0
  · have:=List.length_eq_zero_iff.1 hx;subst this;exact ⟨[],rfl,⟨A,c,rfl,fun a ha j u hu=>by simp at hu,fun h=>absurd h (by simp)⟩,rfl,fun u hu=>by simp at hu⟩
  · obtain ⟨b,o,rfl,hr⟩:=h3 (by omega);obtain ⟨cs,hc,hcell,hone⟩:=insB_news xs o hr;exact ⟨cs,hc,⟨_,c,rfl,fun a ha j u hu=>by cases ha;rw [Addr.add_lit];exact hcell j u hu,fun _=>by simp⟩,rows_len_ hc,hone⟩
section
variable {B B':Nat→Prop} {w w':World} {gb o0:Nat}
variable (hk:∀ b o v,B b→(b≠gb∨o≠o0+1)→w.cell? ⟨b,o,none⟩=some v→w'.cell? ⟨b,o,none⟩=some v) (hB:∀ b,B b→B' b)
variable {A0 A1:Option Addr} {n0 c0 n1 c1:Nat} (h0:w.cell? ⟨gb,o0,none⟩=some (.slice A0 n0 c0)) (h1:w.cell? ⟨gb,o0+1,none⟩=some (.slice A1 n1 c1))
include hk h1
theorem rint_put {b o:Nat} {x:Int} (hb:B b) (h:RInt w b o x):RInt w' b o x:=by
  refine ⟨hk b o _ hb ?_ h.1,h.2⟩
  by_cases e:b=gb
  · right;intro e2;subst e e2;have h2:=h.1;rw [h1] at h2;exact absurd h2 (by simp)
  · exact .inl e
include hB
theorem rintB_put {b o:Nat} {x:Int} (h:RIntB B w b o x):RIntB B' w' b o x:=⟨hB _ h.1,rint_put hk h1 h.1 h.2⟩
theorem slint_put {A:Option Addr} {c:Nat} {xs:List Int} (h:SL w 1 (RIntB B) A c xs):SL w' 1 (RIntB B') A c xs:=SL.imp (fun b o x h=>rintB_put hk hB h1 h) h
include h0
theorem rinsB_put {b o:Nat} {x:InsD} (h:RInsB B w b o x):RInsB B' w' b o x:=by
  obtain ⟨hb,g0,g1,⟨A,c,g2,hs⟩,g3,g4⟩:=h;refine ⟨hB _ hb,rint_put hk h1 hb g0,rint_put hk h1 hb g1,⟨A,c,hk b (o+2) _ hb ?_ g2,slint_put hk hB h1 hs⟩,rint_put hk h1 hb g3,rint_put hk h1 hb g4⟩
  by_cases e:b=gb
  · right;intro e2;(have e3:o+1=o0:=by omega);subst e e3;have:=g1.1;rw [h0] at this;exact absurd this (by simp)
  · exact .inl e
theorem slins_put {A:Option Addr} {c:Nat} {xs:List InsD} (h:SL w 5 (RInsB B) A c xs):SL w' 5 (RInsB B') A c xs:=SL.imp (fun b o x h=>rinsB_put hk hB h0 h1 h) h
theorem rblkB_put {b o:Nat} {x:BlkD} (hx:x.phis=[]) (ho:b≠gb∨(o≠o0+1∧o+1≠o0+1∧o+4≠o0+1)) (h:RBlkB B w b o x):RBlkB B' w' b o x:=by
  obtain ⟨hb,⟨Ap,cp,g0,hs0⟩,⟨Ai,ci,g1,hs1⟩,g2,g3,⟨At,ct,g4,hs4⟩⟩:=h;refine ⟨hB _ hb,⟨Ap,cp,hk b o _ hb (by omega) g0,?_⟩,⟨Ai,ci,hk b (o+1) _ hb (by omega) g1,slins_put hk hB h0 h1 hs1⟩,rint_put hk h1 hb g2,rint_put hk h1 hb g3,⟨At,ct,hk b (o+4) _ hb (by omega) g4,slint_put hk hB h1 hs4⟩⟩;rw [hx] at hs0 ⊢;exact ⟨hs0.1,hs0.2.1,fun hp=>absurd hp (by simp)⟩
end
theorem blks_put {B B':Nat→Prop} {w w':World} {gb ob c:Nat} {bs:List BlkD} {k:BlkD} {ins:List InsD} {An:Option Addr} {cn:Nat}
    (hs:SL w 5 (RBlkB B) (some ⟨gb,ob,none⟩) c bs) (h0:bs[0]?=some k) (hp:∀ b∈bs,b.phis=[])
    (hk:∀ b o v,B b→(b≠gb∨o≠ob+1)→w.cell? ⟨b,o,none⟩=some v→w'.cell? ⟨b,o,none⟩=some v) (hB:∀ b,B b→B' b)
    (hc:w'.cell? ⟨gb,ob+1,none⟩=some (.slice An ins.length cn)) (hi:SL w' 5 (RInsB B') An cn ins) :
    SL w' 5 (RBlkB B') (some ⟨gb,ob,none⟩) c (bs.set 0 ⟨k.phis,ins,k.term⟩):=by
  obtain ⟨b,o,x,e,hx,hr⟩:=hs.at_ (show 0<bs.length from (List.getElem?_eq_some_iff.1 h0).1);cases e;(have hxk:x=k:=by rw [h0] at hx;exact (Option.some.inj hx.out).symm);subst hxk;obtain ⟨hb,⟨Ap,cp,g0,hs0⟩,⟨Ai,ci,g1,hs1⟩,g2,g3,⟨At,ct,g4,hs4⟩⟩:=hr;rw [Nat.zero_mul,Nat.add_zero] at g0 g1 g2 g3 g4;have hxp:=hp x (List.mem_of_getElem? h0);refine hs.putS ?_ fun i y hi hy hr=>rblkB_put hk hB g0 g1 (hp y (List.mem_of_getElem? hy)) (.inr (by omega)) hr;rw [Nat.zero_mul,Nat.add_zero]
  refine ⟨hB _ hb,⟨Ap,cp,hk gb ob _ hb (by omega) g0,?_⟩,⟨An,cn,hc,hi⟩,rint_put hk g1 hb g2,rint_put hk g1 hb g3,⟨At,ct,hk gb (ob+4) _ hb (by omega) g4,slint_put hk hB g1 hs4⟩⟩;rw [hxp] at hs0 ⊢;exact ⟨hs0.1,hs0.2.1,fun hp=>absurd hp (by simp)⟩
theorem store_zeros {HT:Nat} {wC:World} {gb ob c base n:Nat} {bs:List BlkD} {k:BlkD} {Ac:Option Addr} {cc:Nat} {l:List Nat} {csI:List Value} {Ar:Option Addr} {cr:Nat} {regs:List Int}
    (hs:SL wC 5 (RBlkB (BG HT wC)) (some ⟨gb,ob,none⟩) c bs) (h0:bs[0]?=some k) (hp:∀ b∈bs,b.phis=[]) (hown:wC.ownsRow base 45 5 (.slice Ac n cc) n (zCs l++csI)) (hn:n=l.length+k.ins.length)
    (hrw:Rows 5 (CIns (BG HT wC) wC) k.ins csI) (hbase:HT≤base) (hl:∀ r∈l,r≤1000000) (hr:SL wC 1 (RIntB (BG HT wC)) Ar cr regs) :
    SL (wC.setCell ⟨gb,ob+1,none⟩ (.slice Ac n cc)) 5 (RBlkB (BG HT (wC.setCell ⟨gb,ob+1,none⟩ (.slice Ac n cc)))) (some ⟨gb,ob,none⟩) c (bs.set 0 ⟨k.phis,l.map zI++k.ins,k.term⟩) ∧
    SL (wC.setCell ⟨gb,ob+1,none⟩ (.slice Ac n cc)) 1 (RIntB (BG HT (wC.setCell ⟨gb,ob+1,none⟩ (.slice Ac n cc)))) Ar cr regs:=by
  obtain ⟨b,o,x,e,hx,hrow⟩:=hs.at_ (show 0<bs.length from (List.getElem?_eq_some_iff.1 h0).1);cases e;(have hxk:x=k:=by have h:=hx.out;rw [h0] at h;exact (Option.some.inj h).symm);subst hxk;obtain ⟨hb,⟨Ap,cp,g0,hs0⟩,⟨Ai,ci,g1,hs1⟩,-⟩:=hrow;rw [Nat.zero_mul,Nat.add_zero] at g0 g1;have hk:∀ b o v,BG HT wC b→(b≠gb∨o≠ob+1)→wC.cell? ⟨b,o,none⟩=some v→(wC.setCell ⟨gb,ob+1,none⟩ (.slice Ac n cc)).cell? ⟨b,o,none⟩=some v:=fun b o v _ hne hv=>by
    rw [World.cell?_setCell_other _ _ _ _ (fun e=>by
      have e1:=congrArg Addr.block e;have e2:=congrArg Addr.off e;simp only at e1 e2;rcases hne with h | h
      · exact h e1.symm
      · exact h e2.symm)]
    exact hv
  have hB:∀ b,BG HT wC b→BG HT (wC.setCell ⟨gb,ob+1,none⟩ (.slice Ac n cc)) b:=fun b h=>⟨h.1,h.2.set _ _ _⟩;refine ⟨?_,slint_put hk hB g1 hr⟩;(have hin:(l.map zI++x.ins).length=n:=by rw [List.length_append,List.length_map,hn]);(have hrd:=(Rows.app hrw (zCs_rows (BG HT wC) wC l hl)).reads (R:=RInsB (BG HT wC)) (e:=45) (base:=base) (u:=.slice Ac n cc) (w:=wC) (by rw [hin];exact hown) (fun g o y c' hg hbg hy hc hcell=>CIns.reads ⟨by omega,Fz.own hown hg⟩ hy hcell));obtain ⟨A2,c2,e2,hsl⟩:=hrd;simp only [Value.slice.injEq] at e2;obtain ⟨rfl,-,rfl⟩:=e2;refine blks_put hs h0 hp hk hB ?_ (slins_put hk hB g0 g1 hsl);rw [hin]
  exact World.cell?_setCell_same _ _ _ g1
end Go.Proofs.Ytfoggldjjnabcaa
