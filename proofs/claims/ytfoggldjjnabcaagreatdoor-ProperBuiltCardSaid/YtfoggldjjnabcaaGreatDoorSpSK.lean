/- Plain, given that ofInstr does what the document says: that it answers, and what it leaves alone. -/
import Derived.Test.YtfoggldjjnabcaaGreatDoorModAK
import Derived.Test.YtfoggldjjnabcaaGreatDoorLimK
import Derived.Shelf.Spec.SlicesGrow
import Derived.Test.YtfoggldjjnabcaaGreatDoorChecked
import Derived.Test.YtfoggldjjnabcaaGreatDoorGrNK
import Derived.Laws.AppendOwnNone
import Derived.Deep.AppendLies
import Derived.Laws.OwnMore
import Derived.WalkSpells
import Derived.Test.YtfoggldjjnabcaaGreatDoorSpWK
import Derived.Test.YtfoggldjjnabcaaGreatDoorSsVK
set_option linter.unusedVariables false
set_option linter.unusedSimpArgs false
namespace Go.Proofs.YtfoggldjjnabcaaGreatDoor
open Go.ChangeShapes Go.WideShapes Go.RowKit Go.Deep
set_option maxRecDepth 100000 in
set_option maxHeartbeats 4000000 in
theorem q53 (f:qB) (v:Value) (w:World) (hv:VFun w v f) :
  Calls Tryz.prog 46 #[v] w λ e w'=>e=.returned (.bool (!f.blocks.all λ b=>decide (b.phis.length=0)))/\Below w.heap.size w w':=by
 obtain ⟨Ar,cr,A,c,rfl,hr,hb,-,-⟩:=hv;have hbl:=hb.len;(go_enter Tryz.func46,Tryz.ntmps46);(go_wp2_with fail);obtain ⟨w1,wk,wu,ww,wj,wJ,-⟩:=named w #[.int .i64 f.params,.int .i64 f.result,.slice Ar f.regs.length cr,.slice A f.blocks.length c] 30;rw [<- wk];clear wk wJ;have wu:w.heap.size<w1.heap.size:=by omega
 go_loopw [8] (λ i wr=>∃ k:Nat,k<=f.blocks.length/\i=.int .i64 k/\Hid ((f.blocks.take k).all (λ b=>decide (b.phis.length=0))=true)/\Below w1.heap.size w1 wr) (λ i _=>f.blocks.length - (intOf i).toNat)
 case atStart=>exact ⟨0,Nat.zero_le _,rfl,Jj rfl,J5 _ _⟩
 case round =>
  obtain ⟨k,hk,rfl,hi,wg⟩:=hrel;have hs:=wg.size;have wv:Kept w1 wr:=q7 wg;have hB:Below w.heap.size w wr:=wj.trans (wg.mono (by omega))
  by_cases wl:k<f.blocks.length
  ·obtain ⟨b,o,kb,rfl,wm,⟨Ap,cp,hphi,wh⟩,⟨Ai,ci,hins,hinss⟩,⟨hkd,-⟩,⟨har,-⟩,⟨At,ct,hto,htos⟩⟩:=(SBlks.keep (ww.trans wv) hb).at_ wl;have hpl:=wh.len
   by_cases hp:0<kb.phis.length
   ·(go_wp2_with fail);(go_ret);exact ⟨by rw [vS wm.out (decide_eq_false (by omega))];rfl,hB.alloc (by omega) _⟩
   ·go_wp2_with fail
    go_roundw
    case rel=>exact ⟨k+1,by omega,by go_num,Jj (by rw [yN wm.out hi.out];exact decide_eq_true (by omega)),wg.alloc (by omega) _⟩
    case measure=>simp [intOf];omega
  ·have hd:=yu hi.out (Nat.le_of_not_lt wl);have HD:=Jj hd;clear hd;(go_wp2_with fail);(go_ret);exact ⟨by rw [HD.out];rfl,hB⟩
set_option maxRecDepth 100000 in
set_option maxHeartbeats 4000000 in
theorem q6Y (OI:kQ) (m:List qB) (vm:Value) (w:World) (hm:VMod w vm m) (wk:∀ f∈m,Lim f) :
  Calls Tryz.prog 18 #[vm] w λ e w'=>(∃ v,e=.returned v/\ErrAt w' v (v8 m))/\Below w.heap.size w w':=by
 have wZ:=hm;obtain ⟨Am,cm,rfl,ww⟩:=hm;have hml:=ww.len;(go_enter Tryz.func18,Tryz.ntmps18);(go_wp2_with fail);obtain ⟨w1,wv,wY,wO,hB1,wQ,-⟩:=named w #[.slice Am m.length cm] 24;rw [<- wv];have q0:w1.cell? ⟨w.heap.size,0,none⟩=some (.slice Am m.length cm):=wQ 0 _ rfl;have wY:w.heap.size<w1.heap.size:=by omega
 clear wv wQ;refine (xi OI m _ _ (VMod.keep wO wZ) wk).mono ?_;rintro e w2 ⟨⟨ve,rfl,he⟩,wU⟩;have hB2:Below w.heap.size w w2:=hB1.trans (wU.mono hB1.size);have wM:=q7 wU;have q0:=wM _ _ q0
 by_cases hp:(jV m).1=0
 ·obtain rfl:=he.nil hp;have wV:Hid (v8 m=yk m 0):=Jj (if_pos hp);clear hp he;go_wp2_with fail
  go_loopw [14] (λ i wr=>∃ k:Nat,k<=m.length/\i=.int .i64 k/\Below w2.heap.size w2 wr/\Hid (yk m 0=yk (m.drop k) k)) (λ i _=>m.length - (intOf i).toNat)
  case atStart=>exact ⟨0,Nat.zero_le _,rfl,J5 _ _,Jj rfl⟩
  case round =>
   obtain ⟨k,hk,rfl,wg,wm⟩:=hrel;have tc:Kept w2 wr:=q7 wg;have hB:Below w.heap.size w wr:=hB2.trans (wg.mono hB2.size)
   by_cases ta:k<m.length
   ·obtain ⟨bb,oo,f,rfl,hx,⟨h0,z0⟩,⟨h1,z1⟩,⟨Ar,cr,h2,z2⟩,Ab,cb,h3,z3⟩:=(SFuns.keep ((wO.trans wM).trans tc) ww).at_ ta;(go_wp2_with fail);obtain ⟨wn,wu,wX,wJ,wR,-,-⟩:=named wr #[.int .i64 f.params,.int .i64 f.result,.slice Ar f.regs.length cr,.slice Ab f.blocks.length cb] 30;have wh:Below w2.heap.size w2 wn:=wg.trans (wR.mono wg.size);have hBn:Below w.heap.size w wn:=hB.trans (wR.mono hB.size);rw [<- wu];clear wu wX;refine (q53 f _ _ ⟨Ar,cr,Ab,cb,rfl,SInts.keep wJ z2,SBlks.keep wJ z3,z0,z1⟩).mono ?_;rintro e w7 ⟨rfl,wT⟩
    have wl:Below w2.heap.size w2 w7:=wh.trans (wT.mono wh.size);have hB7:Below w.heap.size w w7:=hBn.trans (wT.mono hBn.size)
    have wW:Hid (yk (m.drop k) k=if q03 f then yk (m.drop (k+1)) (k+1) else (6,(k:Int))):=Jj (by
     have hd:m.drop k=f::m.drop (k+1):=by
      obtain ⟨hl,he⟩:=Jk hx.out;rw [<- he];exact List.drop_eq_getElem_cons hl
     rw [hd];rfl)
    cases wj:(f.blocks.all λ b=>decide (b.phis.length=0))
    ·have HE:Hid (v8 m=(6,(k:Int))):=Jj (by
      have h0:q03 f=false:=wj
      rw [wV.out,wm.out,wW.out,h0];rfl)
     clear wj;(go_wp2_with fail);(go_ret);exact ⟨⟨_,rfl,by rw [HE.out];exact .inr (.inr ⟨by show (6:Int)≠0;decide,by show (0:Int)<=k;omega,w7.heap.size,rfl,by simp,by simp⟩)⟩,hB7.alloc hB7.size _⟩
    ·have HN:Hid (yk m 0=yk (m.drop (k+1)) (k+1)):=Jj (by
      have h0:q03 f=true:=wj
      rw [wm.out,wW.out,h0];rfl)
     clear wj;go_wp2_with fail
     go_roundw
     case rel=>exact ⟨k+1,by omega,by go_num,wl,HN⟩
     case measure=>simp [intOf];omega
   ·have HE:Hid (v8 m=(0,-1)):=Jj (by
     rw [wV.out,wm.out,List.drop_eq_nil_of_le (by omega)];rfl)
    (go_wp2_with fail);(go_ret);exact ⟨⟨_,rfl,by rw [HE.out];exact .inl ⟨rfl,rfl⟩⟩,hB⟩
 ·have HE:Hid (v8 m=jV m):=Jj (if_neg hp);have td:=Jj he;obtain ⟨t,x,hv⟩:=he.iface hp;subst hv;clear hp he;(go_wp2_with fail);(go_ret);exact ⟨⟨_,rfl,by rw [HE.out];exact td.out⟩,hB2⟩
end Go.Proofs.YtfoggldjjnabcaaGreatDoor

namespace Go.Proofs.YtfoggldjjnabcaaGreatDoor
open Go.Shelf
def q8b:Go.Shelf.Ren:=⟨λ | 4=>55 | n=>n,λ | 25=>53 | 22=>49 | 0=>0 | 3=>3 | 4=>4 | 9=>9 | 20=>20 | n=>n,λ | n=>n⟩
theorem qBr:Go.Proofs.Lays8.n4 Tryz.prog q8b:={
 mixed:=by kernel_rfl,
 f4:=⟨Tryz.f55.name,by decide,Tryz.func55.trans (congrArg some (by kernel_rfl))⟩,
 t0:=Tryz.underlying0,a0:=Tryz.isAgg0,z0:=Tryz.sizeOf0,v0:=Tryz.zeroValue0,
 t3:=Tryz.underlying3,a3:=Tryz.isAgg3,z3:=Tryz.sizeOf3,v3:=Tryz.zeroValue3,
 t4:=Tryz.underlying4,a4:=Tryz.isAgg4,z4:=Tryz.sizeOf4,v4:=Tryz.zeroValue4,
 t9:=Tryz.underlying9,a9:=Tryz.isAgg9,z9:=Tryz.sizeOf9,v9:=Tryz.zeroValue9,
 t20:=Tryz.underlying20,a20:=Tryz.isAgg20,z20:=Tryz.sizeOf20,v20:=Tryz.zeroValue20,
 t22:=Tryz.underlying49,a22:=Tryz.isAgg49,z22:=Tryz.sizeOf49,v22:=Tryz.zeroValue49 }
end Go.Proofs.YtfoggldjjnabcaaGreatDoor

namespace Go.Proofs.YtfoggldjjnabcaaGreatDoor
open Go.ChangeShapes Go.WideShapes Go.RowKit Go.Deep
theorem q2y {w:World} {base:Nat} {t ty e:TypeId} {i:TypeInfo} {size:Nat} (ht:Tryz.prog.underlying t=some (.slice e)) (hi:Tryz.prog.info? e=some i) {v:Value} {n:Nat} {xs:List Value} (wg:w.ownsRow base e size v n xs) (A:Option Addr) (c:Nat) :
  (Builtin.append_ #[t,t] ty #[v,.slice A 0 c]).run Tryz.prog w=.ok v w:=by
 cases A with
 | none =>
  rcases wg.2 with ⟨rfl,rfl⟩ | ⟨g,cap,cur,rfl,_,_,wl,_⟩
  ·simp [Builtin.append_,run_underlying ht,sizeOf,typeInfo,hi,Builtin.lenOf,Builtin.firstCells]
  ·simp [Builtin.append_,run_underlying ht,sizeOf,typeInfo,hi,Builtin.lenOf,Builtin.firstCells,wl,storeCells]
 | some a =>
  rcases wg.2 with ⟨rfl,rfl⟩ | ⟨g,cap,cur,rfl,_,_,wl,_⟩
  ·simp [Builtin.append_,run_underlying ht,sizeOf,typeInfo,hi,Builtin.lenOf,Builtin.firstCells,loadCells,loadCellsFrom]
  ·simp [Builtin.append_,run_underlying ht,sizeOf,typeInfo,hi,Builtin.lenOf,Builtin.firstCells,wl,storeCells,loadCells,loadCellsFrom]
theorem q4M {w:World} {base:Nat} {t ty e:TypeId} {i:TypeInfo} {z:Value} {size bytes:Nat} (ht:Tryz.prog.underlying t=some (.slice e)) (hi:Tryz.prog.info? e=some i) (hz:i.zero=some z) (wj:i.size=size) (wv:i.bytes=bytes) (wm:z.cells.size=size) (wu:0<size)
  {v:Value} {n:Nat} {xs:List Value} (wg:w.ownsRow base e size v n xs) {A:Option Addr} {m c:Nat} {news:List Value} (hl:news.length=m * size)
  (hA:∀ a,A=some a->∀ j u,news[j]?=some u->w.cell? (a.add j)=some u) (hA0:0<m->A≠none) (h1:∀ u∈news,u.oneCell'=true) (ww:n+m<=maxLen) (wh:(n+m) * bytes<=140737488355328) (wk:base<=w.heap.size) :
  ∃ v' w',(Builtin.append_ #[t,t] ty #[v,.slice A m c]).run Tryz.prog w=.ok v' w'/\w'.ownsRow base e size v' (n+m) (xs++news)/\w.grownBy w' v.ownBlock/\(v'.ownBlock=v.ownBlock\/v'.ownBlock=some w.heap.size):=by
 by_cases hm:m=0
 ·subst hm;have hn:news=[]:=List.eq_nil_of_length_eq_zero (by omega);subst hn;exact ⟨v,w,q2y ht hi wg A c,by rw [List.append_nil];exact wg,⟨rfl,rfl,rfl,J4 _,λ _ _ _=>rfl⟩,.inl rfl⟩
 ·cases A with
  | none=>exact absurd rfl (hA0 (by omega))
  | some a =>
   obtain ⟨g,cap,w',hr,h2,h3,h4,-⟩:=run_append_lies w t ty base e i z size bytes ht hi hz wj wv wm wu v n xs wg a m c news hl (hA a rfl) h1 (by omega) ww wh wk _ rfl;refine ⟨_,w',hr,h2,h3,?_⟩;rcases h4 with h4 | h4
   ·exact .inl (by rw [h4];rfl)
   ·exact .inr (by rw [h4];rfl)
end Go.Proofs.YtfoggldjjnabcaaGreatDoor

namespace Go.Proofs.YtfoggldjjnabcaaGreatDoor
open Go.ChangeShapes Go.WideShapes Go.RowKit Go.Deep Go.Shelf
theorem jd (z:Array Value) (n:Nat):(Builtin.zeroCells z n).size=n * z.size:=by
 unfold Builtin.zeroCells;simp
theorem q6z (n:Nat) (hn:n<=1000000) (w:World) :
  Calls Tryz.prog 55 #[.slice none 0 0,.int .i64 n] w λ e w'=>∃ v,e=.returned v/\w'.ownsRow w.heap.size 53 5 v 0 []/\Below w.heap.size w w':=by
 rcases Nat.eq_zero_or_pos n with rfl | hp
 ·refine Calls.mono (Any8.slices_Grow_room qBr none 0 0 0 w (J4 _) (by omega) (by omega) (by omega)) ?_;rintro e w' ⟨rfl,rfl⟩;exact ⟨_,rfl,World.ownsRow_nil _ _ _ _,J5 _ _⟩
 ·obtain ⟨i0,wJ,wu,wm,wl⟩:=info_parts Tryz.info53;(refine Calls.mono (Any8.slices_Grow_grow qBr i0 (.agg #[.int .i64 0,.int .i64 0,.slice none 0 0,.int .i64 0,.int .i64 0]) wJ wu (by rw [wm];omega) none 0 0 n [] w (J4 _) (by omega) (by rw [wl];omega) (by omega) (by simp) (λ _=>rfl) (λ a h=>by cases h)) ?_);rintro e w' ⟨rfl,rfl⟩;have h1:0+n<=grownCap w (0+n) 0 53:=grownCap_ge w _ _ _;(have h2:=grownCap_le_maxLen w (0+n) 0 53 (by unfold maxLen;omega));refine ⟨_,rfl,⟨rfl,.inr ⟨w.heap.size,_,_,rfl,J4 _,heap_alloc_new w.drew _,Nat.zero_le _,h2,?_,by simp⟩⟩,((J5 _ w).drew).alloc (J4 _) _⟩;rw [Array.size_append,Array.size_append,jd,jd];show (0+(0+n - 0) * 5+(grownCap w (0+n) 0 53 - (0+n)) * 5)=grownCap w (0+n) 0 53 * 5;omega
structure SrcI (w:World) (v:Value) (n:Nat) (cs:List Value):Prop where
 shape:∃ A c,v=.slice A n c/\(∀ a,A=some a->∀ j u,cs[j]?=some u->w.cell? (a.add j)=some u)/\(0<n->A≠none)
 len:cs.length=n * 5
 one:∀ u∈cs,u.oneCell'=true
theorem SrcI.keep {w w':World} {v:Value} {n:Nat} {cs:List Value} (h:SrcI w v n cs) (hb:Below w.heap.size w w'):SrcI w' v n cs:=by
 obtain ⟨⟨A,c,e,h1,h2⟩,h3,h4⟩:=h;exact ⟨⟨A,c,e,λ a ha j u hu=>(q7 hb) _ _ (h1 a ha j u hu),h2⟩,h3,h4⟩
def yj (L:Nat->Nat):Nat->Nat
 | 0=>0
 | k+1=>yj L k+L k
def q4m (C:Nat->List Value):Nat->List Value
 | 0=>[]
 | k+1=>q4m C k++C k
theorem q1j (L:Nat->Nat) {a b:Nat} (h:a<=b):yj L a<=yj L b:=by
 induction h with
 | refl=>exact J4 _
 | step _ ih=>show _<=yj L _+L _;omega
def qBR (L:Nat->Nat) (C:Nat->List Value) (n:Nat) (w:World) (e:Ending) (w':World):Prop:=(∃ v,e=.returned v/\w'.ownsRow w.heap.size 53 5 v (yj L n) (q4m C n))/\Below w.heap.size w w'
set_option maxRecDepth 100000 in
set_option maxHeartbeats 8000000 in
theorem q4B {w:World} {g n:Nat} {ety:TypeId} {U:Nat->Value} {L:Nat->Nat} {C:Nat->List Value} (hr:w.rowIs g ety n U) (hp:∀ d,d<n->SrcI w (U d) (L d) (C d)) (hn:n<=16) (ht:yj L n<=100000) :
  Calls Tryz.prog 21 #[.slice (some ⟨g,0,none⟩) n n] w (qBR L C n w):=by
 have HR:=Jj hr;have HP:=Jj hp;have HT:=Jj ht;clear hr hp ht;(go_enter Tryz.func21,Tryz.ntmps21);(go_wp2_with fail);go_loop [3,11] (λ s i=>∃ j:Nat,j<=n/\i=.int .i64 j/\∃ q:Nat,s=.int .i64 q/\Hid (q=yj L j)) (λ _ i=>n - (intOf i).toNat)
 case atStart=>exact ⟨0,Nat.zero_le _,rfl,0,rfl,Jj rfl⟩
 case round =>
  obtain ⟨j,hj,rfl,q,rfl,hq⟩:=hrel
  by_cases wk:j<n
  ·obtain ⟨⟨A,c,hU,-,-⟩,-,-⟩:=HP.out j wk;have hc:=HR.out.cell wk;rw [hU] at hc;have hl:yj L (j+1)=yj L j+L j:=rfl;have wv:yj L (j+1)<=100000:=Nat.le_trans (q1j L wk) HT.out;(have hq1:(q:Int)+(L j:Int)<=100000:=by have:=hq.out;omega);have HN:Hid (q+L j=yj L (j+1)):=Jj (by rw [hl,<- hq.out]);(have wW:¬ ((q:Int)+(L j:Int)<0):=by omega);have dnn:decide ((q:Int)+(L j:Int)<0)=false:=decide_eq_false wW
   (have hj0:(0:Int)<=j:=by omega);(have hj1:(j:Int)<n:=by omega);clear hl wv hU hq;generalize L j=lj at *;(go_wp2_with fail);go_round
   case rel=>exact ⟨j+1,wk,by go_num,q+lj,by go_num,HN⟩
   case measure=>simp [intOf];omega
  ·(obtain rfl:j=n:=by omega);(have HQ:Hid (q<=100000):=Jj (by rw [hq.out];exact HT.out));clear hq hj wk;(go_wp2_with fail);(refine (q6z q (by have:=HQ.out;omega) w).mono ?_);rintro e w1 ⟨v,rfl,wh,wU⟩;have HO:=Jj wh;have HB:=Jj wU;clear wh wU
   (go_wp2_with fail);clear HQ
   go_loopw [6,27] (λ sv i wr=>∃ k:Nat,k<=j/\i=.int .i64 k/\∃ v2,sv=v2/\Hid (wr.ownsRow w.heap.size 53 5 v2 (yj L k) (q4m C k))/\Hid (Below w.heap.size w wr)) (λ _ i _=>j - (intOf i).toNat)
   case atStart=>exact ⟨0,Nat.zero_le _,rfl,v,rfl,HO,HB⟩
   case round =>
    obtain ⟨k,hk,rfl,v2,wV,wO,wg⟩:=hrel;obtain rfl:=wV.symm
    by_cases ww:k<j
    ·obtain ⟨⟨A,c,hU,hA1,hA2⟩,wT,wj⟩:=(HP.out k ww).keep wg.out;have hc:=(JK (a:=⟨g,k,none⟩) (wg.out.block g HR.out.lt)).trans (HR.out.cell ww);rw [hU] at hc;have wv:yj L (k+1)<=100000:=Nat.le_trans (q1j L ww) HT.out;(have hk0:(0:Int)<=k:=by omega);(have hk1:(k:Int)<j:=by omega);obtain ⟨i0,wJ,wu,wm,wl⟩:=info_parts Tryz.info53;have hrunX:∀ ty,∃ v' w',(Builtin.append_ #[49,49] ty #[v2,.slice A (L k) c]).run Tryz.prog wr=.ok v' w'/\w'.ownsRow w.heap.size 53 5 v' (yj L k+L k) (q4m C k++C k)/\wr.grownBy w' v2.ownBlock/\(v'.ownBlock=v2.ownBlock\/v'.ownBlock=some wr.heap.size):=λ ty =>
      q4M (ty:=ty) Tryz.underlying49 wJ wu wm wl (by rfl) (by decide) wO.out wT hA1 hA2 wj (by show yj L (k+1)<=_;unfold maxLen;omega) (by have h:yj L k+L k<=100000:=wv;omega) wg.out.size
     obtain ⟨v',w8,wM,wQ,wR,-⟩:=hrunX 49;have wX:Hid (w8.ownsRow w.heap.size 53 5 v' (yj L (k+1)) (q4m C (k+1))):=Jj wQ;have wY:Hid (Below w.heap.size w w8):=Jj (wg.out.grown wR wg.out.size (λ y hy=>(wO.out.lt y hy).1));clear hU hA1 hA2 wT wj wv wJ wu wm wl hrunX wQ wR;generalize L k=lk at *;go_wp2_with (at_builtin;refine Lib.wpList_append_run _ rfl _ _ _ _ rfl _ _ rfl rfl _ _ wM ?_)
     go_roundw
     case rel=>exact ⟨k+1,ww,by go_num,_,rfl,wX,wY⟩
     case measure=>simp [intOf];omega
    ·(obtain rfl:k=j:=by omega);(go_wp2_with fail);(go_ret);exact ⟨⟨_,rfl,wO.out⟩,wg.out⟩
end Go.Proofs.YtfoggldjjnabcaaGreatDoor

namespace Go.Proofs.YtfoggldjjnabcaaGreatDoor
open Go.ChangeShapes Go.WideShapes Go.RowKit Go.Deep
theorem SL.putS {α:Type} {sz bp op c k:Nat} {R R':World->Nat->Nat->α->Prop} {w w':World} {xs:List α} {y:α} (h:SL w sz R (some ⟨bp,op,none⟩) c xs)
  (hk:R' w' bp (op+k * sz) y) (ho:∀ i x,i≠k->xs[i]?=some x->R w bp (op+i * sz) x->R' w' bp (op+i * sz) x):SL w' sz R' (some ⟨bp,op,none⟩) c (xs.set k y):=by
 obtain ⟨h1,h2,h3⟩:=h;(refine ⟨by rw [List.length_set];exact h1,h2,λ hp=>?_⟩);rw [List.length_set] at hp;obtain ⟨b,o,e,hr⟩:=h3 hp;cases e;refine ⟨_,_,rfl,λ i x hi=>?_⟩;rw [List.getElem?_set] at hi
 by_cases e:k=i
 ·subst e;rw [if_pos rfl] at hi
  split at hi
  ·cases hi;exact hk
  ·cases hi
 ·rw [if_neg e] at hi;exact ho i x (λ e'=>e e'.symm) hi (hr i x hi)
theorem q8z {B:Nat->Prop} {w:World} {b o:Nat} {x:qN} (h:RInsB B w b o x):∃ cs,cs.length=5/\CIns B w x cs/\(∀ j u,cs[j]?=some u->w.cell? ⟨b,o+j,none⟩=some u)/\∀ u∈cs,u.oneCell'=true:=by
 obtain ⟨-,⟨h0,g0⟩,⟨h1,g1⟩,⟨A,c,h2,hs⟩,⟨h3,g3⟩,⟨h4,g4⟩⟩:=h;refine ⟨[.int .i64 x.op,.int .i64 x.dst,.slice A x.args.length c,.int .i64 x.imm,.int .i64 x.fn],rfl,⟨A,c,rfl,hs,g0,g1,g3,g4⟩,λ j u hu=>?_,λ u hu=>?_⟩
 ·match j,hu with
  | 0,hu=>obtain rfl:=J3 hu;exact h0
  | 1,hu=>obtain rfl:=J3 hu;exact h1
  | 2,hu=>obtain rfl:=J3 hu;exact h2
  | 3,hu=>obtain rfl:=J3 hu;exact h3
  | 4,hu=>obtain rfl:=J3 hu;exact h4
 ·simp only [List.mem_cons,List.not_mem_nil,or_false] at hu;rcases hu with rfl | rfl | rfl | rfl | rfl <;> rfl
theorem q1w {B:Nat->Prop} {w:World} {b:Nat}:∀ (xs:List qN) (o:Nat),(∀ i x,xs[i]?=some x->RInsB B w b (o+i * 5) x) ->
  ∃ cs,Rows 5 (CIns B w) xs cs/\(∀ j u,cs[j]?=some u->w.cell? ⟨b,o+j,none⟩=some u)/\∀ u∈cs,u.oneCell'=true
 | [],o,_=>⟨[],rfl,λ j u h=>by simp at h,λ u h=>by simp at h⟩
 | x::xs,o,h=>by
  obtain ⟨c,hl,hc,wg,wj⟩:=q8z (by simpa using h 0 x rfl);(obtain ⟨cs,hr,wk,wm⟩:=q1w xs (o+5) (λ i y hy=>by have:=h (i+1) y (by simpa using hy);rwa [show o+(i+1) * 5=o+5+i * 5 by omega] at this));refine ⟨c++cs,⟨c,cs,rfl,hl,hc,hr⟩,λ j u hu=>?_,λ u hu=>?_⟩
  ·by_cases hj:j<5
   ·rw [List.getElem?_append_left (by omega)] at hu;exact wg j u hu
   ·rw [List.getElem?_append_right (by omega),hl] at hu;have:=wk (j - 5) u hu
    rwa [show o+5+(j - 5)=o+j by omega] at this
  ·rcases List.mem_append.1 hu with hu | hu
   ·exact wj u hu
   ·exact wm u hu
theorem Rows.app {α:Type} {sz:Nat} {F:α->List Value->Prop} {l2:List α} {c2:List Value} (h2:Rows sz F l2 c2):∀ {l:List α} {c:List Value},Rows sz F l c->Rows sz F (l++l2) (c++c2)
 | [],c,h=>by obtain rfl:c=[]:=h;exact h2
 | x::l,c,⟨d,r,e,h1,h3,h4⟩=>⟨d,r++c2,by rw [e,List.append_assoc],h1,h3,Rows.app h2 h4⟩
theorem q8X {B:Nat->Prop} {w:World} {A:Option Addr} {c:Nat} {xs:List qN} (h:SL w 5 (RInsB B) A c xs):∃ cs,Rows 5 (CIns B w) xs cs/\SrcI w (.slice A xs.length c) xs.length cs:=by
 obtain ⟨h1,h2,h3⟩:=h
 by_cases hx:xs.length=0
 ·have:=List.length_eq_zero_iff.1 hx;subst this;exact ⟨[],rfl,⟨A,c,rfl,λ a ha j u hu=>by simp at hu,λ h=>absurd h (by simp)⟩,rfl,λ u hu=>by simp at hu⟩
 ·obtain ⟨b,o,rfl,hr⟩:=h3 (by omega);obtain ⟨cs,hc,wg,wj⟩:=q1w xs o hr;exact ⟨cs,hc,⟨_,c,rfl,λ a ha j u hu=>by cases ha;rw [Addr.add_lit];exact wg j u hu,λ _=>by simp⟩,xF hc,wj⟩
section
variable {B B':Nat->Prop} {w w':World} {gb o0:Nat}
variable (hk:∀ b o v,B b->(b≠gb\/o≠o0+1)->w.cell? ⟨b,o,none⟩=some v->w'.cell? ⟨b,o,none⟩=some v) (hB:∀ b,B b->B' b)
variable {A0 A1:Option Addr} {n0 c0 n1 c1:Nat} (h0:w.cell? ⟨gb,o0,none⟩=some (.slice A0 n0 c0)) (h1:w.cell? ⟨gb,o0+1,none⟩=some (.slice A1 n1 c1))
include hk h1
theorem vk {b o:Nat} {x:Int} (hb:B b) (h:RInt w b o x):RInt w' b o x:=by
 refine ⟨hk b o _ hb ?_ h.1,h.2⟩
 by_cases e:b=gb
 ·right;intro e2;subst e e2;have h2:=h.1;rw [h1] at h2;exact absurd h2 (by simp)
 ·exact .inl e
include hB
theorem q6S {b o:Nat} {x:Int} (h:RIntB B w b o x):RIntB B' w' b o x:=⟨hB _ h.1,vk hk h1 h.1 h.2⟩
theorem xE {A:Option Addr} {c:Nat} {xs:List Int} (h:SL w 1 (RIntB B) A c xs):SL w' 1 (RIntB B') A c xs:=SL.imp (λ b o x h=>q6S hk hB h1 h) h
include h0
theorem q6T {b o:Nat} {x:qN} (h:RInsB B w b o x):RInsB B' w' b o x:=by
 obtain ⟨hb,g0,g1,⟨A,c,g2,hs⟩,g3,g4⟩:=h;refine ⟨hB _ hb,vk hk h1 hb g0,vk hk h1 hb g1,⟨A,c,hk b (o+2) _ hb ?_ g2,xE hk hB h1 hs⟩,vk hk h1 hb g3,vk hk h1 hb g4⟩
 by_cases e:b=gb
 ·right;intro e2;(have e3:o+1=o0:=by omega);subst e e3;have:=g1.1;rw [h0] at this;exact absurd this (by simp)
 ·exact .inl e
theorem q1f {A:Option Addr} {c:Nat} {xs:List qN} (h:SL w 5 (RInsB B) A c xs):SL w' 5 (RInsB B') A c xs:=SL.imp (λ b o x h=>q6T hk hB h0 h1 h) h
theorem q6W {b o:Nat} {x:qE} (hx:x.phis=[]) (ho:b≠gb\/(o≠o0+1/\o+1≠o0+1/\o+4≠o0+1)) (h:RBlkB B w b o x):RBlkB B' w' b o x:=by
 obtain ⟨hb,⟨Ap,cp,g0,wh⟩,⟨Ai,ci,g1,ww⟩,g2,g3,⟨At,ct,g4,wv⟩⟩:=h;refine ⟨hB _ hb,⟨Ap,cp,hk b o _ hb (by omega) g0,?_⟩,⟨Ai,ci,hk b (o+1) _ hb (by omega) g1,q1f hk hB h0 h1 ww⟩,vk hk h1 hb g2,vk hk h1 hb g3,⟨At,ct,hk b (o+4) _ hb (by omega) g4,xE hk hB h1 wv⟩⟩;rw [hx] at wh ⊢;exact ⟨wh.1,wh.2.1,λ hp=>absurd hp (by simp)⟩
end
theorem q90 {B B':Nat->Prop} {w w':World} {gb ob c:Nat} {bs:List qE} {k:qE} {ins:List qN} {An:Option Addr} {cn:Nat}
  (hs:SL w 5 (RBlkB B) (some ⟨gb,ob,none⟩) c bs) (h0:bs[0]?=some k) (hp:∀ b∈bs,b.phis=[])
  (hk:∀ b o v,B b->(b≠gb\/o≠ob+1)->w.cell? ⟨b,o,none⟩=some v->w'.cell? ⟨b,o,none⟩=some v) (hB:∀ b,B b->B' b)
  (hc:w'.cell? ⟨gb,ob+1,none⟩=some (.slice An ins.length cn)) (hi:SL w' 5 (RInsB B') An cn ins) :
  SL w' 5 (RBlkB B') (some ⟨gb,ob,none⟩) c (bs.set 0 ⟨k.phis,ins,k.term⟩):=by
 obtain ⟨b,o,x,e,hx,hr⟩:=hs.at_ (show 0<bs.length from (Jk h0).1);cases e;(have wu:x=k:=by rw [h0] at hx;exact (J3 hx.out).symm);subst wu;obtain ⟨hb,⟨Ap,cp,g0,wh⟩,⟨Ai,ci,g1,ww⟩,g2,g3,⟨At,ct,g4,wv⟩⟩:=hr;rw [Nat.zero_mul,Nat.add_zero] at g0 g1 g2 g3 g4;have wO:=hp x (Jz h0);refine hs.putS ?_ λ i y hi hy hr=>q6W hk hB g0 g1 (hp y (Jz hy)) (.inr (by omega)) hr;rw [Nat.zero_mul,Nat.add_zero]
 refine ⟨hB _ hb,⟨Ap,cp,hk gb ob _ hb (by omega) g0,?_⟩,⟨An,cn,hc,hi⟩,vk hk g1 hb g2,vk hk g1 hb g3,⟨At,ct,hk gb (ob+4) _ hb (by omega) g4,xE hk hB g1 wv⟩⟩;rw [wO] at wh ⊢;exact ⟨wh.1,wh.2.1,λ hp=>absurd hp (by simp)⟩
theorem q3C {HT:Nat} {wC:World} {gb ob c base n:Nat} {bs:List qE} {k:qE} {Ac:Option Addr} {cc:Nat} {l:List Nat} {csI:List Value} {Ar:Option Addr} {cr:Nat} {regs:List Int}
  (hs:SL wC 5 (RBlkB (BG HT wC)) (some ⟨gb,ob,none⟩) c bs) (h0:bs[0]?=some k) (hp:∀ b∈bs,b.phis=[]) (wl:wC.ownsRow base 53 5 (.slice Ac n cc) n (zCs l++csI)) (hn:n=l.length+k.ins.length)
  (wR:Rows 5 (CIns (BG HT wC) wC) k.ins csI) (hbase:HT<=base) (hl:∀ r∈l,r<=1000000) (hr:SL wC 1 (RIntB (BG HT wC)) Ar cr regs) :
  SL (wC.setCell ⟨gb,ob+1,none⟩ (.slice Ac n cc)) 5 (RBlkB (BG HT (wC.setCell ⟨gb,ob+1,none⟩ (.slice Ac n cc)))) (some ⟨gb,ob,none⟩) c (bs.set 0 ⟨k.phis,l.map zI++k.ins,k.term⟩) /\
  SL (wC.setCell ⟨gb,ob+1,none⟩ (.slice Ac n cc)) 1 (RIntB (BG HT (wC.setCell ⟨gb,ob+1,none⟩ (.slice Ac n cc)))) Ar cr regs:=by
 obtain ⟨b,o,x,e,hx,wJ⟩:=hs.at_ (show 0<bs.length from (Jk h0).1);cases e;(have wu:x=k:=by have h:=hx.out;rw [h0] at h;exact (J3 h).symm);subst wu;obtain ⟨hb,⟨Ap,cp,g0,wh⟩,⟨Ai,ci,g1,ww⟩,-⟩:=wJ;rw [Nat.zero_mul,Nat.add_zero] at g0 g1;have hk:∀ b o v,BG HT wC b->(b≠gb\/o≠ob+1)->wC.cell? ⟨b,o,none⟩=some v->(wC.setCell ⟨gb,ob+1,none⟩ (.slice Ac n cc)).cell? ⟨b,o,none⟩=some v:=λ b o v _ wU hv=>by
  rw [World.cell?_setCell_other _ _ _ _ (λ e=>by
   have e1:=congrArg Addr.block e;have e2:=congrArg Addr.off e;simp only at e1 e2;rcases wU with h | h
   ·exact h e1.symm
   ·exact h e2.symm)]
  exact hv
 have hB:∀ b,BG HT wC b->BG HT (wC.setCell ⟨gb,ob+1,none⟩ (.slice Ac n cc)) b:=λ b h=>⟨h.1,h.2.set _ _ _⟩;refine ⟨?_,xE hk hB g1 hr⟩;(have wM:(l.map zI++x.ins).length=n:=by rw [List.length_append,List.length_map,hn]);(have wT:=(Rows.app wR (q33 (BG HT wC) wC l hl)).reads (R:=RInsB (BG HT wC)) (e:=53) (base:=base) (u:=.slice Ac n cc) (w:=wC) (by rw [wM];exact wl) (λ g o y c' hg hbg hy hc wg=>CIns.reads ⟨by omega,Fz.own wl hg⟩ hy wg));obtain ⟨A2,c2,e2,wQ⟩:=wT;simp only [Value.slice.injEq] at e2;obtain ⟨rfl,-,rfl⟩:=e2;refine q90 hs h0 hp hk hB ?_ (q1f hk hB g0 g1 wQ);rw [wM]
 exact World.cell?_setCell_same _ _ _ g1
end Go.Proofs.YtfoggldjjnabcaaGreatDoor
