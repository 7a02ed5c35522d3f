/- The program's namedTooSoon: what it tells. -/
import Derived.Test.YtfoggldjjnabcaaGreatDoorSsMJ
import Derived.Test.YtfoggldjjnabcaaGreatDoorPpIJ
import Derived.Test.YtfoggldjjnabcaaGreatDoorInfBJ
import Derived.Test.YtfoggldjjnabcaaGreatDoorPpCJ
import Derived.Test.YtfoggldjjnabcaaGreatDoorChkDJ
import Derived.StillTailTactics
import Derived.Test.YtfoggldjjnabcaaGreatDoorAheadGJ
namespace Go.Proofs.YtfoggldjjnabcaaGreatDoor
open Go.ChangeShapes Go.WideShapes Go.RowKit Go.Deep
set_option linter.unusedVariables false
set_option linter.unusedSimpArgs false
theorem Below.step {a b c:World} (h:Below a.heap.size a b) (k:Below b.heap.size b c):Below a.heap.size a c:=h.trans (k.mono h.size)
def soonB (f:FunD) (j:Nat):Bool:=(nmL f).any fun e=>decide (e.r=(j:Int)) && badB f e
def ToldSn (f:FunD) (w:World) (e:Ending) (w':World):Prop :=
  (∃ G,e=.returned (.slice (some ⟨G,0,none⟩) f.regs.length f.regs.length)∧w.heap.size≤G∧w'.rowIs G 4 f.regs.length (fun j=>.bool (soonB f j)))∧Below w.heap.size w w'
section
variable (n nb H:Nat) (F1:Nat→Value) (D:Nat→Nat→Bool)
def KP (lab:Nat→Nat) (W:World) (v:Value):Prop:=∃ GK,v=.slice (some ⟨GK,0,none⟩) n n∧H≤GK∧W.rowIs GK 90 (2 * n) F1∧lab GK=1
def DP2 (lab:Nat→Nat) (W:World) (v:Value):Prop:=∃ G D0,v=.slice (some ⟨G,0,none⟩) nb nb∧H≤G∧BGr W G D0 nb D∧lab G=2∧∀ x,x<nb→lab (D0+x)=2
def XP (lab:Nat→Nat) (W:World) (p:Value) (ty:TypeId) (t:Nat) (u:Value):Prop:=∃ B,p=.pointer (some ⟨B,0,none⟩)∧H≤B∧W.heap[B]?=some (.cells #[u] ty)∧lab B=t
variable {n nb H F1 D}
variable {lab lab':Nat→Nat} {W W':World} {v p u:Value} {ty:TypeId} {t:Nat}
theorem KP.go (h:KP n H F1 lab W v) (hb:∀ b,b<W.heap.size→lab b=1→W'.heap[b]?=W.heap[b]?∧lab' b=1):KP n H F1 lab' W' v:=by
  obtain ⟨GK,e,h1,h2,h3⟩:=h;obtain ⟨q1,q2⟩:=hb GK h2.lt h3;exact ⟨GK,e,h1,h2.of_block q1,q2⟩
theorem DP2.go (h:DP2 nb H D lab W v) (hb:∀ b,b<W.heap.size→lab b=2→W'.heap[b]?=W.heap[b]?∧lab' b=2):DP2 nb H D lab' W' v:=by
  obtain ⟨G,D0,e,h1,h2,h3,h4⟩:=h;obtain ⟨q1,q2⟩:=hb G h2.row.lt h3;exact ⟨G,D0,e,h1,⟨h2.row.of_block q1,fun a ha=>(h2.cells a ha).of_block (hb _ (h2.cells a ha).lt (h4 a ha)).1,h2.lt⟩,q2,fun x hx=>(hb _ (h2.cells x hx).lt (h4 x hx)).2⟩
theorem XP.go (h:XP H lab W p ty t u) (hb:∀ b,b<W.heap.size→lab b=t→W'.heap[b]?=W.heap[b]?∧lab' b=t):XP H lab' W' p ty t u:=by
  obtain ⟨B,e,h1,h2,h3⟩:=h;obtain ⟨q1,q2⟩:=hb B (qO h2) h3;exact ⟨B,e,h1,q1.trans h2,q2⟩
end
theorem lit_opt {l:Array Bool} {k:Nat} (h:l[k]?.getD false=true):l[k]?=some true:=by
  cases e:l[k]? with
  | none=>rw [e] at h;cases h
  | some b=>rw [e] at h;exact congrArg some h
theorem lit_ready {ops:Array Oper} {l:Array Bool} (hr:Region.ready .any ops l=[]) {i:Nat} {o:Oper} (hi:i<l.size) (ho:ops[i]?=some o) (hdep:∀ e∈o.after,Region.binds .any e=true→l.getD e.on false=true):l[i]?=some true:=by
  have hl:l[i]?=some l[i]:=Array.getElem?_eq_getElem hi;cases hb:l[i] with
  | true=>rw [hl,hb]
  | false =>
    (have:i∈Region.ready .any ops l:=mem_ready.2 ⟨by unfold Array.getD;rw [dif_pos hi];exact hb,o,ho,hdep⟩);rw [hr] at this;cases this
theorem lit_un {l:Array Bool} {k:Nat} (h:l.getD k true=false):¬ l[k]?=some true:=fun e=>by
  obtain ⟨hk,e⟩:=Array.getElem?_eq_some_iff.1 e;unfold Array.getD at h;rw [dif_pos hk] at h;exact absurd (h.symm.trans e) (by decide)
theorem qT {l:Array Bool} {i j:Nat} (h:l[j]?=some true) (hi:i<l.size):(l.setIfInBounds i true)[j]?=some true:=by
  rw [Array.getElem?_setIfInBounds]
  by_cases e:i=j
  · subst e;rw [if_pos rfl,if_pos hi]
  · rw [if_neg e];exact h
structure RgI (f:FunD) (F:Value) (N:Nat) (w1:World) (l:Array Bool) (a:Act) (W:World):Prop where
  sz:l.size=8
  st:∃ (t3 t4 t6 t7 t8 t9:Value) (lab:Nat→Nat),a=⟨#[F,.pointer (some ⟨N,0,none⟩),.slice none 0 0,t3,t4,undef,t6,t7,t8,t9,undef,undef,undef,undef,undef,undef,undef,undef],[]⟩ ∧
    Below w1.heap.size w1 W∧(∀ b,b<w1.heap.size→lab b=0)∧(l[0]?=some true→t6=F)∧(l[2]?=some true→t8=F) ∧
    (l[1]?=some true→KP f.regs.length w1.heap.size (mkF (evL f)) lab W t7)∧(l[3]?=some true→DP2 f.blocks.length w1.heap.size (dmB f.blocks) lab W t9) ∧
    (l[6]?=some true→l[1]?=some true∧l[4]?=some true)∧(l[7]?=some true→l[3]?=some true∧l[5]?=some true) ∧
    (l[4]?=some true→∃ u,XP w1.heap.size lab W t3 131 3 u∧(l[6]?=some true→u=t7))∧(l[5]?=some true→∃ u,XP w1.heap.size lab W t4 59 4 u∧(l[7]?=some true→u=t9))
set_option maxRecDepth 100000 in
set_option maxHeartbeats 16000000 in
theorem namedTooSoon_any (f:FunD) (vf:Value) (w:World) (hf:VFun w vf f) (hn:f.regs.length≤300) (hnb:f.blocks.length≤1000) (hG:OfNone w)
    (hph:∀ (i:Nat) (b:BlkD),f.blocks[i]?=some b→∀ p∈b.phis,p.args.length=(qG f.blocks (i:Int)).length)
    (hQ:∀ e∈nmL f,(0≤e.r∧e.r<f.regs.length)∧0≤e.b∧e.b<f.blocks.length) (hm:∀ r,(fstM (evL f) r).b<f.blocks.length) :
    Calls Tryz.prog 39 #[vf] w (ToldSn f w):=by
  have hf0:=hf;obtain ⟨Ar,cr,Ab,cb,rfl,hr0,hb0,hp0,-⟩:=hf;have HVF:=Lib.hid hf0;have HG:=Lib.hid hG;have hmk:=run_make_row' (P:=Tryz.prog) 64 4 (.bool false) 1 Tryz.underlying64 Tryz.info4 rfl .i64 .i64 f.regs.length (by omega) (by omega);have HMK:=Lib.hid hmk;have HPH:=Lib.hid hph;have HQ:=Lib.hid hQ;have HM:=Lib.hid hm
  clear hf0 hr0 hb0 hp0 hG hmk hph hQ hm;(go_enter Tryz.func39,Tryz.ntmps39);(go_upto_region 1 with fail);obtain ⟨w1,hw1,hs1,hk1,hbel1,hc1,-⟩:=named w #[.int .i64 f.params,.int .i64 f.result,.slice Ar f.regs.length cr,.slice Ab f.blocks.length cb] 30;rw [← hw1];obtain ⟨N,hN⟩:∃ N,N=w.heap.size:=⟨_,rfl⟩;rw [← hN] at hc1 ⊢;have f0:w1.cell? ⟨N,0,none⟩=some (.int .i64 f.params):=hc1 0 _ rfl;have f1:w1.cell? ⟨N,1,none⟩=some (.int .i64 f.result):=hc1 1 _ rfl
  have f2:w1.cell? ⟨N,2,none⟩=some (.slice Ar f.regs.length cr):=hc1 2 _ rfl;have f3:w1.cell? ⟨N,3,none⟩=some (.slice Ab f.blocks.length cb):=hc1 3 _ rfl;(have bF:w1.heap[N]?=some (.cells #[.int .i64 f.params,.int .i64 f.result,.slice Ar f.regs.length cr,.slice Ab f.blocks.length cb] 30):=by rw [hw1,hN];exact heap_alloc_new _ _);have HB1:=Lib.hid hbel1;have HBF:=Lib.hid bF;have HN:=Lib.hid hN;have hNw:N<w1.heap.size:=by omega
  have HMA:Hid (∀ W,Below w1.heap.size w1 W→Calls Tryz.prog 78 #[.agg #[.int .i64 f.params,.int .i64 f.result,.slice Ar f.regs.length cr,.slice Ab f.blocks.length cb]] W (ToldMkr f W)):=Lib.hid (fun W hW =>
    makers_any f _ W (VFun.keep (q6 (HB1.out.trans (hW.mono HB1.out.size))) HVF.out) hn (HG.out.keep (q6 (HB1.out.trans (hW.mono HB1.out.size)))))
  have HDO:Hid (∀ W,Below w1.heap.size w1 W→Calls Tryz.prog 79 #[.agg #[.int .i64 f.params,.int .i64 f.result,.slice Ar f.regs.length cr,.slice Ab f.blocks.length cb]] W (ToldDo f.blocks W)):=Lib.hid (fun W hW =>
    domDominates_any f _ W (VFun.keep (q6 (HB1.out.trans (hW.mono HB1.out.size))) HVF.out) hnb)
  have HFF:=Lib.hid (And.intro f0 (And.intro f1 (And.intro f2 f3)));clear hw1 hs1 hbel1 hc1 hN bF;rename_i K aK;have HAK:=Lib.hid aK;clear aK;obtain ⟨F,hF⟩:∃ F,F=Value.agg #[.int .i64 f.params,.int .i64 f.result,.slice Ar f.regs.length cr,.slice Ab f.blocks.length cb]:=⟨_,rfl⟩;rw [← hF];rw [← hF] at HMA HDO;have HFE:=Lib.hid hF
  have HLD:Hid (∀ W,Below w1.heap.size w1 W→W.cell? ⟨N,0,none⟩=some (.int .i64 f.params)∧W.cell? ⟨N,1,none⟩=some (.int .i64 f.result)∧W.cell? ⟨N,2,none⟩=some (.slice Ar f.regs.length cr)∧W.cell? ⟨N,3,none⟩=some (.slice Ab f.blocks.length cb)):=Lib.hid (fun W hW =>
    ⟨q6 hW _ _ f0,q6 hW _ _ f1,q6 hW _ _ f2,q6 hW _ _ f3⟩)
  clear f0 f1 f2 f3 hF;refine wp_region_inv (RgI f F N w1) (by kernel_rfl) (fun l a w h=>h.sz) ?_ ?_
  · intro l a W hI;have hsz:=hI.sz;have HI:=Lib.hid hI;constructor
    · intro hr;have h0:l[0]?=some true:=lit_ready hr (by omega) rfl (by simp);have h2:l[2]?=some true:=lit_ready hr (by omega) rfl (by simp);have h4:l[4]?=some true:=lit_ready hr (by omega) rfl (by simp);have h5:l[5]?=some true:=lit_ready hr (by omega) rfl (by simp);have h1:l[1]?=some true:=lit_ready hr (by omega) rfl (by simp [h0]);have h3:l[3]?=some true:=lit_ready hr (by omega) rfl (by simp [h2,h1]);have h6:l[6]?=some true:=lit_ready hr (by omega) rfl (by simp [h0,h1,h2,h3,h4,h5]);have h7:l[7]?=some true:=lit_ready hr (by omega) rfl (by simp [h0,h1,h2,h3,h4,h5,h6])
      obtain ⟨t3,t4,t6,t7,t8,t9,lab,rfl,hb,hlow,e0,e2,e1,e3,o6,o7,e4,e5⟩:=hI.st;obtain rfl:=e0 h0;obtain ⟨GK,rfl,hGK,hrow,lK⟩:=e1 h1;obtain ⟨G,D0,rfl,hGG,hgr,lG,lD⟩:=e3 h3;obtain ⟨u,⟨BK,rfl,hBK,cBK,lBK⟩,q4⟩:=e4 h4;obtain ⟨u',⟨BD,rfl,hBD,cBD,lBD⟩,q5⟩:=e5 h5;obtain rfl:=q4 h6;obtain rfl:=q5 h7;have ht8:=e2 h2
      subst ht8;have HBW:=Lib.hid hb;have HR:=Lib.hid hrow;have HGR:=Lib.hid hgr;have HCK:=Lib.hid cBK;have HCD:=Lib.hid cBD;have HII:=Lib.hid (And.intro hGK (And.intro hGG (And.intro hBK hBD)));obtain ⟨f0,f1,f2,f3⟩:=HLD.out W hb;refine HAK.out _ _ ?_
      have hmk:=HMK.out;clear HAK HI h0 h1 h2 h3 h4 h5 h6 h7 hr hb hlow e0 e2 e1 e3 o6 o7 e4 e5 q4 q5 hGK hrow lK hGG hgr lG lD hBK cBK lBK hBD cBD lBD hI;(go_upto_region 3 with fail);obtain ⟨W3,hW3⟩:∃ W3,W3=(W.alloc (.cells (madeCells #[.bool false] f.regs.length) 4)).alloc (.cells #[.slice (some ⟨W.heap.size,0,none⟩) f.regs.length f.regs.length] 64):=⟨_,rfl⟩;obtain ⟨GS,hGS⟩:∃ GS,GS=W.heap.size:=⟨_,rfl⟩;obtain ⟨bM,bB,hsz3,hbel3⟩:=boxes2_ W GS hGS _ _ W3 hW3;rw [← hW3,← hGS];rw [hGS] at hbel3;rw [← hGS] at bB
      have hk3:=q6 hbel3;have f0:=hk3 _ _ f0;have f1:=hk3 _ _ f1;have f2:=hk3 _ _ f2;have f3:=hk3 _ _ f3;have hx1:=qO HCK.out;have hx2:=qO HCD.out;have hx3:=HR.out.lt;have hx4:=HGR.out.row.lt
      have hx5:∀ a,a<f.blocks.length→D0+a<W.heap.size:=fun a ha=>(HGR.out.cells a ha).lt;have hx6:N<W.heap.size:=by have:=HBW.out.size;omega
      have hP:SnP f Ar Ab cr cb GK N BK BD (GS+1) GS G D0 [] W3:=⟨⟨_,bM,size_madeCells _ _,fun i hi=>by simp [madeCells,hi,Nat.mod_one]⟩,
        HR.out.of_block (hbel3.block _ hx3),HGR.out.below hbel3,(hbel3.block _ hx6).trans ((HBW.out.block N hNw).trans HBF.out),(hbel3.block _ hx1).trans HCK.out,(hbel3.block _ hx2).trans HCD.out,bB⟩
      have HV:Hid (Vis4 (SnP f Ar Ab cr cb GK N BK BD (GS+1) GS G D0) (fun b=>b=GS) (fun e=>(0≤e.r∧e.r<f.regs.length)∧0≤e.b∧e.b<f.blocks.length) 81 (.pointer (some ⟨N,0,none⟩)) (.pointer (some ⟨BK,0,none⟩)) (.pointer (some ⟨BD,0,none⟩)) (.pointer (some ⟨GS+1,0,none⟩)) W3):=Lib.hid
        ⟨call_enter Tryz.func81 (by kernel_rfl) rfl,fun b hb=>by show b<W3.heap.size;rw [hb];omega,fun l u u' h h2=>h.below h2,
         fun l e u hp hx hq=>soon_step e hp (by omega) (by omega) (fun a ha=>by have:=hx5 a ha;omega) (by omega) (by omega) (by omega) (by omega) hq.1.1 hq.1.2 hq.2.1 hq.2.2 HM.out hnb⟩
      have hBW:Below w.heap.size w W3:=HB1.out.trans ((HBW.out.trans (hbel3.mono HBW.out.size)).mono HB1.out.size);(have hKW:∀ w',FrX (fun b=>b=GS) W3 w'→Below w.heap.size w w':=fun w' h=>hBW.trans (h.below hBW.size (fun k hk=>by rw [hk];have:=HB1.out.size;have:=HBW.out.size;omega)));have HEM:=Lib.hid (eachNamed_any f _ w W3 HV.out HVF.out (fun w' h=>q6 (hKW w' h)) hP hnb HPH.out HQ.out);have HKW:=Lib.hid hKW;(have HGS:Hid (w.heap.size≤GS):=Lib.hid (by have:=HB1.out.size;have:=HBW.out.size;omega));clear hW3 hGS bM bB hsz3 hbel3 hk3 hx1 hx2 hx3 hx4 hx5 hx6 hP hBW hKW hmk;(go_wp2_with fail);refine HEM.out.mono ?_;rintro e w7 ⟨rfl,hp7,hx7⟩
      have b1:=q7 hp7.bs 0;have HP7:=Lib.hid hp7;have HX7:=Lib.hid (HKW.out _ hx7);clear hp7 hx7 f0 f1 f2 f3;(go_wp2_with fail);(go_ret);exact ⟨⟨GS,rfl,HGS.out,HP7.out.s⟩,HX7.out⟩
    · intro i hm;obtain ⟨hl,o,ho,hdep⟩:=mem_ready.1 hm;have hi8:i<8:=(Array.getElem?_eq_some_iff.1 ho).1;have HDEP:=Lib.hid hdep;have HO:=Lib.hid ho;have HUN:=Lib.hid hl;clear hm hl ho hdep hI;refine wpOp_one ?_ (by exact hi8);intro o2 ho2 K2 hK2
      rcases (show i=0∨i=1∨i=2∨i=3∨i=4∨i=5∨i=6∨i=7 by omega) with rfl | rfl | rfl | rfl | rfl | rfl | rfl | rfl
      · have ho:=HO.out;simp only [List.getElem?_toArray,List.getElem?_cons_zero,List.getElem?_cons_succ,Option.some.injEq] at ho2 ho;have hdep:=HDEP.out;rw [← ho] at hdep;simp at hdep;clear ho;subst ho2;obtain ⟨t3,t4,t6,t7,t8,t9,lab,rfl,hb,hlow,e0,e2,e1,e3,o6,o7,e4,e5⟩:=HI.out.st;obtain ⟨f0,f1,f2,f3⟩:=HLD.out W hb
        (go_simp);rw [← HFE.out];refine hK2.out _ _ ⟨by simp [hsz],t3,t4,F,t7,t8,t9,lab,rfl,hb,hlow,fun _=>rfl,fun h=>e2 (qE h (by decide)),fun h=>e1 (qE h (by decide)),fun h=>e3 (qE h (by decide)),fun h=>?_,fun h=>?_,fun h=>?_,fun h=>?_⟩
        · have q:=o6 (qE h (by decide));exact ⟨qT q.1 (by omega),qT q.2 (by omega)⟩
        · have q:=o7 (qE h (by decide));exact ⟨qT q.1 (by omega),qT q.2 (by omega)⟩
        · obtain ⟨u,q1,q2⟩:=e4 (qE h (by decide));exact ⟨u,q1,fun h=>q2 (qE h (by decide))⟩
        · obtain ⟨u,q1,q2⟩:=e5 (qE h (by decide));exact ⟨u,q1,fun h=>q2 (qE h (by decide))⟩
      · have ho:=HO.out;simp only [List.getElem?_toArray,List.getElem?_cons_zero,List.getElem?_cons_succ,Option.some.injEq] at ho2 ho;have hdep:=HDEP.out;rw [← ho] at hdep;simp at hdep;clear ho;subst ho2;obtain ⟨t3,t4,t6,t7,t8,t9,lab,rfl,hb,hlow,e0,e2,e1,e3,o6,o7,e4,e5⟩:=HI.out.st;have ht6:=e0 (lit_opt (hdep rfl))
        rw [ht6];(go_simp);refine (HMA.out W hb).mono ?_;rintro e W' ⟨⟨GK,rfl,hGK,hrow⟩,hbW⟩;(have HGO:Hid (∀ b k,b<W.heap.size→lab b=k→W'.heap[b]?=W.heap[b]?∧extL lab W.heap.size 1 b=k):=Lib.hid (fun b k hb hl=>⟨hbW.block b hb,by rw [extL_old hb];exact hl⟩));have hbb:=hb.trans (hbW.mono hb.size);have hsW:=hb.size;(go_wp2_with fail);refine hK2.out _ _ ⟨by simp [hsz],t3,t4,F,_,t8,t9,extL lab W.heap.size 1,rfl,hbb,fun b hb=>by rw [extL_old (by omega)];exact hlow b hb,fun _=>rfl,fun h=>e2 (qE h (by decide)),fun _=>⟨GK,rfl,by omega,hrow,extL_new hGK⟩,fun h=>(e3 (qE h (by decide))).go (fun b h1 h2=>HGO.out b 2 h1 h2),fun h=>?_,fun h=>?_,fun h=>?_,fun h=>?_⟩
        · have q:=o6 (qE h (by decide));exact ⟨qT q.1 (by omega),qT q.2 (by omega)⟩
        · have q:=o7 (qE h (by decide));exact ⟨qT q.1 (by omega),qT q.2 (by omega)⟩
        · obtain ⟨u,q1,q2⟩:=e4 (qE h (by decide));exact ⟨u,q1.go (fun b h1 h2=>HGO.out b 3 h1 h2),fun h=>absurd (o6 (qE h (by decide))).1 (lit_un HUN.out)⟩
        · obtain ⟨u,q1,q2⟩:=e5 (qE h (by decide));exact ⟨u,q1.go (fun b h1 h2=>HGO.out b 4 h1 h2),fun h=>q2 (qE h (by decide))⟩
      · have ho:=HO.out;simp only [List.getElem?_toArray,List.getElem?_cons_zero,List.getElem?_cons_succ,Option.some.injEq] at ho2 ho;have hdep:=HDEP.out;rw [← ho] at hdep;simp at hdep;clear ho;subst ho2;obtain ⟨t3,t4,t6,t7,t8,t9,lab,rfl,hb,hlow,e0,e2,e1,e3,o6,o7,e4,e5⟩:=HI.out.st;obtain ⟨f0,f1,f2,f3⟩:=HLD.out W hb
        (go_simp);rw [← HFE.out];refine hK2.out _ _ ⟨by simp [hsz],t3,t4,t6,t7,F,t9,lab,rfl,hb,hlow,fun h=>e0 (qE h (by decide)),fun _=>rfl,fun h=>e1 (qE h (by decide)),fun h=>e3 (qE h (by decide)),fun h=>?_,fun h=>?_,fun h=>?_,fun h=>?_⟩
        · have q:=o6 (qE h (by decide));exact ⟨qT q.1 (by omega),qT q.2 (by omega)⟩
        · have q:=o7 (qE h (by decide));exact ⟨qT q.1 (by omega),qT q.2 (by omega)⟩
        · obtain ⟨u,q1,q2⟩:=e4 (qE h (by decide));exact ⟨u,q1,fun h=>q2 (qE h (by decide))⟩
        · obtain ⟨u,q1,q2⟩:=e5 (qE h (by decide));exact ⟨u,q1,fun h=>q2 (qE h (by decide))⟩
      · have ho:=HO.out;simp only [List.getElem?_toArray,List.getElem?_cons_zero,List.getElem?_cons_succ,Option.some.injEq] at ho2 ho;have hdep:=HDEP.out;rw [← ho] at hdep;simp at hdep;clear ho;subst ho2;obtain ⟨t3,t4,t6,t7,t8,t9,lab,rfl,hb,hlow,e0,e2,e1,e3,o6,o7,e4,e5⟩:=HI.out.st;have ht8:=e2 (lit_opt (hdep.1 rfl))
        rw [ht8];(go_simp);refine (HDO.out W hb).mono ?_;rintro e W' ⟨⟨G,D0,rfl,hGG,hgr,-⟩,hbW⟩;(have HGO:Hid (∀ b k,b<W.heap.size→lab b=k→W'.heap[b]?=W.heap[b]?∧extL lab W.heap.size 2 b=k):=Lib.hid (fun b k hb hl=>⟨hbW.block b hb,by rw [extL_old hb];exact hl⟩));have hbb:=hb.trans (hbW.mono hb.size);have hsW:=hb.size;have hDG:=hgr.lt;go_wp2_with fail
        refine hK2.out _ _ ⟨by simp [hsz],t3,t4,t6,t7,F,_,extL lab W.heap.size 2,rfl,hbb,fun b hb=>by rw [extL_old (by omega)];exact hlow b hb,fun h=>e0 (qE h (by decide)),fun _=>rfl,fun h=>(e1 (qE h (by decide))).go (fun b h1 h2=>HGO.out b 1 h1 h2),fun _=>⟨G,D0,rfl,by omega,hgr,extL_new hGG,fun x hx=>extL_new (by omega)⟩,fun h=>?_,fun h=>?_,fun h=>?_,fun h=>?_⟩
        · have q:=o6 (qE h (by decide));exact ⟨qT q.1 (by omega),qT q.2 (by omega)⟩
        · have q:=o7 (qE h (by decide));exact ⟨qT q.1 (by omega),qT q.2 (by omega)⟩
        · obtain ⟨u,q1,q2⟩:=e4 (qE h (by decide));exact ⟨u,q1.go (fun b h1 h2=>HGO.out b 3 h1 h2),fun h=>q2 (qE h (by decide))⟩
        · obtain ⟨u,q1,q2⟩:=e5 (qE h (by decide));exact ⟨u,q1.go (fun b h1 h2=>HGO.out b 4 h1 h2),fun h=>absurd (o7 (qE h (by decide))).1 (lit_un HUN.out)⟩
      · have ho:=HO.out;simp only [List.getElem?_toArray,List.getElem?_cons_zero,List.getElem?_cons_succ,Option.some.injEq] at ho2 ho;have hdep:=HDEP.out;rw [← ho] at hdep;simp at hdep;clear ho;subst ho2;obtain ⟨t3,t4,t6,t7,t8,t9,lab,rfl,hb,hlow,e0,e2,e1,e3,o6,o7,e4,e5⟩:=HI.out.st;obtain ⟨W',hW'⟩:∃ W',W'=W.alloc (.cells #[.slice none 0 0] 131):=⟨_,rfl⟩
        (have hbW:Below W.heap.size W W':=by rw [hW'];exact (Below.refl _ _).alloc (Nat.le_refl _) _);(have HGO:Hid (∀ b k,b<W.heap.size→lab b=k→W'.heap[b]?=W.heap[b]?∧extL lab W.heap.size 3 b=k):=Lib.hid (fun b k hb hl=>⟨hbW.block b hb,by rw [extL_old hb];exact hl⟩));have hbb:=hb.trans (hbW.mono hb.size);have hsW:=hb.size;(go_simp);rw [← hW'];refine hK2.out _ _ ⟨by simp [hsz],.pointer (some ⟨W.heap.size,0,none⟩),t4,t6,t7,t8,t9,extL lab W.heap.size 3,rfl,hbb,fun b hb=>by rw [extL_old (by omega)];exact hlow b hb,fun h=>e0 (qE h (by decide)),fun h=>e2 (qE h (by decide)),fun h=>(e1 (qE h (by decide))).go (fun b h1 h2=>HGO.out b 1 h1 h2),fun h=>(e3 (qE h (by decide))).go (fun b h1 h2=>HGO.out b 2 h1 h2),fun h=>?_,fun h=>?_,fun h=>?_,fun h=>?_⟩
        · have q:=o6 (qE h (by decide));exact ⟨qT q.1 (by omega),qT q.2 (by omega)⟩
        · have q:=o7 (qE h (by decide));exact ⟨qT q.1 (by omega),qT q.2 (by omega)⟩
        · exact ⟨.slice none 0 0,⟨W.heap.size,rfl,by omega,by rw [hW'];exact heap_alloc_new _ _,extL_new (Nat.le_refl _)⟩,fun h=>absurd (o6 (qE h (by decide))).2 (lit_un HUN.out)⟩
        · obtain ⟨u,q1,q2⟩:=e5 (qE h (by decide));exact ⟨u,q1.go (fun b h1 h2=>HGO.out b 4 h1 h2),fun h=>q2 (qE h (by decide))⟩
      · have ho:=HO.out;simp only [List.getElem?_toArray,List.getElem?_cons_zero,List.getElem?_cons_succ,Option.some.injEq] at ho2 ho;have hdep:=HDEP.out;rw [← ho] at hdep;simp at hdep;clear ho;subst ho2;obtain ⟨t3,t4,t6,t7,t8,t9,lab,rfl,hb,hlow,e0,e2,e1,e3,o6,o7,e4,e5⟩:=HI.out.st;obtain ⟨W',hW'⟩:∃ W',W'=W.alloc (.cells #[.slice none 0 0] 59):=⟨_,rfl⟩
        (have hbW:Below W.heap.size W W':=by rw [hW'];exact (Below.refl _ _).alloc (Nat.le_refl _) _);(have HGO:Hid (∀ b k,b<W.heap.size→lab b=k→W'.heap[b]?=W.heap[b]?∧extL lab W.heap.size 4 b=k):=Lib.hid (fun b k hb hl=>⟨hbW.block b hb,by rw [extL_old hb];exact hl⟩));have hbb:=hb.trans (hbW.mono hb.size);have hsW:=hb.size;(go_simp);rw [← hW'];refine hK2.out _ _ ⟨by simp [hsz],t3,.pointer (some ⟨W.heap.size,0,none⟩),t6,t7,t8,t9,extL lab W.heap.size 4,rfl,hbb,fun b hb=>by rw [extL_old (by omega)];exact hlow b hb,fun h=>e0 (qE h (by decide)),fun h=>e2 (qE h (by decide)),fun h=>(e1 (qE h (by decide))).go (fun b h1 h2=>HGO.out b 1 h1 h2),fun h=>(e3 (qE h (by decide))).go (fun b h1 h2=>HGO.out b 2 h1 h2),fun h=>?_,fun h=>?_,fun h=>?_,fun h=>?_⟩
        · have q:=o6 (qE h (by decide));exact ⟨qT q.1 (by omega),qT q.2 (by omega)⟩
        · have q:=o7 (qE h (by decide));exact ⟨qT q.1 (by omega),qT q.2 (by omega)⟩
        · obtain ⟨u,q1,q2⟩:=e4 (qE h (by decide));exact ⟨u,q1.go (fun b h1 h2=>HGO.out b 3 h1 h2),fun h=>q2 (qE h (by decide))⟩
        · exact ⟨.slice none 0 0,⟨W.heap.size,rfl,by omega,by rw [hW'];exact heap_alloc_new _ _,extL_new (Nat.le_refl _)⟩,fun h=>absurd (o7 (qE h (by decide))).2 (lit_un HUN.out)⟩
      · have ho:=HO.out;simp only [List.getElem?_toArray,List.getElem?_cons_zero,List.getElem?_cons_succ,Option.some.injEq] at ho2 ho;have hdep:=HDEP.out;rw [← ho] at hdep;simp at hdep;clear ho;subst ho2;obtain ⟨t3,t4,t6,t7,t8,t9,lab,rfl,hb,hlow,e0,e2,e1,e3,o6,o7,e4,e5⟩:=HI.out.st;have HD1:=Lib.hid (lit_opt (hdep.2.1 rfl))
        have HD2:=Lib.hid (lit_opt (hdep.1 rfl));clear hdep;obtain ⟨u,⟨B,rfl,hB,hcB,hlB⟩,-⟩:=e4 HD2.out;have KV:=e1 HD1.out;have KV2:=Lib.hid KV;obtain ⟨GK,rfl,-⟩:=KV;have c0:=q7 hcB 0;have z0:=qA hcB 0;obtain ⟨W',hW'⟩:∃ W',W'=W.setCell ⟨B,0,none⟩ (.slice (some ⟨GK,0,none⟩) f.regs.length f.regs.length):=⟨_,rfl⟩
        (have HGO:Hid (∀ b k,k≠3→b<W.heap.size→lab b=k→W'.heap[b]?=W.heap[b]?∧lab b=k):=Lib.hid (fun b k hk hb2 hl=>⟨by rw [hW'];exact Below.heap_setCell _ _ _ _ (fun e=>hk (by rw [← hl,e];exact hlB)),hl⟩));(have hbb:Below w1.heap.size w1 W':=by rw [hW'];exact hb.setCell hB _);(go_simp);rw [← hW'];refine hK2.out _ _ ⟨by simp [hsz],.pointer (some ⟨B,0,none⟩),t4,t6,(.slice (some ⟨GK,0,none⟩) f.regs.length f.regs.length),t8,t9,lab,rfl,hbb,hlow,fun h=>e0 (qE h (by decide)),fun h=>e2 (qE h (by decide)),fun h=>(e1 (qE h (by decide))).go (fun b h1 h2=>HGO.out b 1 (by decide) h1 h2),fun h=>(e3 (qE h (by decide))).go (fun b h1 h2=>HGO.out b 2 (by decide) h1 h2),fun h=>?_,fun h=>?_,fun h=>?_,fun h=>?_⟩
        · exact ⟨qT HD1.out (by omega),qT HD2.out (by omega)⟩
        · have q:=o7 (qE h (by decide));exact ⟨qT q.1 (by omega),qT q.2 (by omega)⟩
        · exact ⟨_,⟨B,rfl,hB,by rw [hW'];exact qF (i:=0) _ hcB,hlB⟩,fun _=>rfl⟩
        · obtain ⟨u,q1,q2⟩:=e5 (qE h (by decide));exact ⟨u,q1.go (fun b h1 h2=>HGO.out b 4 (by decide) h1 h2),fun h=>q2 (qE h (by decide))⟩
      · have ho:=HO.out;simp only [List.getElem?_toArray,List.getElem?_cons_zero,List.getElem?_cons_succ,Option.some.injEq] at ho2 ho;have hdep:=HDEP.out;rw [← ho] at hdep;simp at hdep;clear ho;subst ho2;obtain ⟨t3,t4,t6,t7,t8,t9,lab,rfl,hb,hlow,e0,e2,e1,e3,o6,o7,e4,e5⟩:=HI.out.st;have HD1:=Lib.hid (lit_opt (hdep.2.1 rfl))
        have HD2:=Lib.hid (lit_opt (hdep.1 rfl));clear hdep;obtain ⟨u,⟨B,rfl,hB,hcB,hlB⟩,-⟩:=e5 HD2.out;have KV:=e3 HD1.out;have KV2:=Lib.hid KV;obtain ⟨G,D0,rfl,-⟩:=KV;have c0:=q7 hcB 0;have z0:=qA hcB 0;obtain ⟨W',hW'⟩:∃ W',W'=W.setCell ⟨B,0,none⟩ (.slice (some ⟨G,0,none⟩) f.blocks.length f.blocks.length):=⟨_,rfl⟩
        (have HGO:Hid (∀ b k,k≠4→b<W.heap.size→lab b=k→W'.heap[b]?=W.heap[b]?∧lab b=k):=Lib.hid (fun b k hk hb2 hl=>⟨by rw [hW'];exact Below.heap_setCell _ _ _ _ (fun e=>hk (by rw [← hl,e];exact hlB)),hl⟩));(have hbb:Below w1.heap.size w1 W':=by rw [hW'];exact hb.setCell hB _);(go_simp);rw [← hW'];refine hK2.out _ _ ⟨by simp [hsz],t3,.pointer (some ⟨B,0,none⟩),t6,t7,t8,(.slice (some ⟨G,0,none⟩) f.blocks.length f.blocks.length),lab,rfl,hbb,hlow,fun h=>e0 (qE h (by decide)),fun h=>e2 (qE h (by decide)),fun h=>(e1 (qE h (by decide))).go (fun b h1 h2=>HGO.out b 1 (by decide) h1 h2),fun h=>(e3 (qE h (by decide))).go (fun b h1 h2=>HGO.out b 2 (by decide) h1 h2),fun h=>?_,fun h=>?_,fun h=>?_,fun h=>?_⟩
        · have q:=o6 (qE h (by decide));exact ⟨qT q.1 (by omega),qT q.2 (by omega)⟩
        · exact ⟨qT HD1.out (by omega),qT HD2.out (by omega)⟩
        · obtain ⟨u,q1,q2⟩:=e4 (qE h (by decide));exact ⟨u,q1.go (fun b h1 h2=>HGO.out b 3 (by decide) h1 h2),fun h=>q2 (qE h (by decide))⟩
        · exact ⟨_,⟨B,rfl,hB,by rw [hW'];exact qF (i:=0) _ hcB,hlB⟩,fun _=>rfl⟩
  · exact ⟨by rfl,undef,undef,undef,undef,undef,undef,fun _=>0,rfl,(Below.refl _ _).drew,fun _ _=>rfl,fun h=>absurd h (by simp),fun h=>absurd h (by simp),fun h=>absurd h (by simp),fun h=>absurd h (by simp),fun h=>absurd h (by simp),fun h=>absurd h (by simp),fun h=>absurd h (by simp),fun h=>absurd h (by simp)⟩
end Go.Proofs.YtfoggldjjnabcaaGreatDoor

namespace Go.Proofs.YtfoggldjjnabcaaGreatDoor
open Go.ChangeShapes Go.WideShapes Go.RowKit Go.Deep
set_option linter.unusedVariables false
set_option linter.unusedSimpArgs false
def qJ (n:Nat) (F:Nat→Bool):Int:=match (List.range n).find? F with | some j=>(j:Int) | none=>-1
theorem firstB_at {n:Nat} {F:Nat→Bool} {j:Nat} (hj:j<n) (h:F j=true) (hb:∀ i,i<j→F i=false):qJ n F=j:=by
  unfold qJ;have:(List.range n).find? F=some j:=by
    rw [List.find?_range_eq_some];exact ⟨h,by simpa using hj,fun i hi=>by simp [hb i hi]⟩
  rw [this]
theorem firstB_none {n:Nat} {F:Nat→Bool} (h:∀ i,i<n→F i=false):qJ n F=-1:=by
  unfold qJ;have:(List.range n).find? F=none:=by
    rw [List.find?_eq_none];intro i hi;rw [h i (List.mem_range.1 hi)];simp
  rw [this]
theorem firstB_cases (n:Nat) (F:Nat→Bool):(∃ j,j<n∧F j=true∧(∀ i,i<j→F i=false)∧qJ n F=(j:Int))∨((∀ i,i<n→F i=false)∧qJ n F=-1):=by
  cases h:(List.range n).find? F with
  | some j =>
    have h1:=h;rw [List.find?_range_eq_some] at h1;refine .inl ⟨j,by simpa using h1.2.1,h1.1,fun i hi=>by simpa using h1.2.2 i hi,by unfold qJ;rw [h]⟩
  | none=>exact .inr ⟨fun i hi=>by have:=List.find?_eq_none.1 h i (List.mem_range.2 hi);simpa using this,by unfold qJ;rw [h]⟩
set_option maxRecDepth 100000 in
theorem indexB_any (n G c:Nat) (F:Nat→Bool) (x:Bool) (w:World) (hr:w.rowIs G 4 n (fun j=>.bool (F j))) (hn:n≤1000000) :
    Calls Tryz.prog 37 #[.slice (some ⟨G,0,none⟩) n c,.bool x] w fun e w'=>e=.returned (.int .i64 (qJ n fun j=>F j == x))∧w'=w:=by
  (go_enter Tryz.func37,Tryz.ntmps37);go_wp2_with fail
  go_loopw [8] (fun i wr=>∃ j:Nat,j≤n∧i=.int .i64 j∧Hid (∀ i,i<j→(F i == x)=false)∧wr=w) (fun i _=>n - (intOf i).toNat)
  case atStart=>exact ⟨0,Nat.zero_le _,rfl,Lib.hid (fun i hi=>by omega),rfl⟩
  case round =>
    obtain ⟨j,hj,rfl,hi,rfl⟩:=hrel
    by_cases hjt:j<n
    · have c0:=hr.cell hjt;(have hj0:(0:Int)≤j:=by omega);have hj1:(j:Int)<n:=by omega
      by_cases hxy:F j=x
      · (have hb:(x == F j)=true:=by rw [hxy];simp);(have HE:Hid (qJ n (fun j=>F j == x)=j):=Lib.hid (firstB_at hjt (by rw [hxy];simp) hi.out));clear hxy;(go_wp2_with fail);(go_ret);exact ⟨by rw [HE.out];rfl,rfl⟩
      · have hb:(x == F j)=false:=by rw [beq_eq_false_iff_ne];exact fun e=>hxy e.symm
        have HN:Hid (∀ i,i<j+1→(F i == x)=false):=Lib.hid (fun i h=>by
          by_cases e:i=j
          · subst e;rw [beq_eq_false_iff_ne];exact hxy
          · exact hi.out i (by omega))
        clear hxy;go_wp2_with fail
        go_roundw
        case rel=>exact ⟨j+1,by omega,by go_num,HN,trivial⟩
        case measure=>simp [intOf];omega
    · (obtain rfl:j=n:=by omega);have HE:Hid (qJ j (fun j=>F j == x)=-1):=Lib.hid (firstB_none hi.out);clear hr;(go_wp2_with fail);(go_ret);exact ⟨by rw [HE.out];rfl,rfl⟩
set_option maxRecDepth 100000 in
theorem containsB_any (n G c:Nat) (F:Nat→Bool) (x:Bool) (w:World) (hr:w.rowIs G 4 n (fun j=>.bool (F j))) (hn:n≤1000000) :
    Calls Tryz.prog 35 #[.slice (some ⟨G,0,none⟩) n c,.bool x] w fun e w'=>e=.returned (.bool (decide (0≤qJ n fun j=>F j == x)))∧w'=w:=by
  have HI:=Lib.hid (indexB_any n G c F x w hr hn);generalize qJ n (fun j=>F j == x)=q at *;(go_enter Tryz.func35,Tryz.ntmps35);(go_wp2_with fail);refine HI.out.mono ?_;rintro e w' ⟨rfl,rfl⟩;(go_wp2_with fail);(go_ret);exact ⟨rfl,rfl⟩
theorem typed_regs {f:FunD} (h:qd f=true):∀ t∈f.regs,t=1∨t=2:=fun t ht=>by
  unfold qd at h;rw [Bool.and_eq_true,Bool.and_eq_true] at h;exact of_decide_eq_true (List.all_eq_true.1 h.1.1 t ht)
set_option maxRecDepth 100000 in
set_option maxHeartbeats 4000000 in
theorem ofFunc_any (OI:OfIns) (m:List FunD) (f:FunD) (vm vf:Value) (w:World) (hm:VMod w vm m) (hf:VFun w vf f) (hlim:Lim f) :
    Calls Tryz.prog 75 #[vm,vf] w fun e w'=>e=.returned (errV (funE m f))∧Below w.heap.size w w':=by
  have hm0:=hm;have hf0:=hf;obtain ⟨Am,cm,rfl,hms⟩:=hm;obtain ⟨Ar,cr,Ab,cb,rfl,hr,hbs,hp64,hr64⟩:=hf;have hbl:=hbs.len;(go_enter Tryz.func75,Tryz.ntmps75);(go_wp2_with fail);obtain ⟨wa,hwa,hsa,hka,hba,hca,-⟩:=named w #[.slice Am m.length cm] 24;obtain ⟨w1,hw1,hs1,hk1,hb1,hc1,-⟩:=named wa #[.int .i64 f.params,.int .i64 f.result,.slice Ar f.regs.length cr,.slice Ab f.blocks.length cb] 30
  rw [← hwa,← hw1];rw [hsa] at hc1;have hB1:Below w.heap.size w w1:=hba.trans (hb1.mono (by omega));have q0:w1.cell? ⟨w.heap.size,0,none⟩=some (.slice Am m.length cm):=hk1 _ _ (hca 0 _ rfl);have f0:w1.cell? ⟨w.heap.size+1,0,none⟩=some (.int .i64 f.params):=hc1 0 _ rfl;have f1:w1.cell? ⟨w.heap.size+1,1,none⟩=some (.int .i64 f.result):=hc1 1 _ rfl;have f2:w1.cell? ⟨w.heap.size+1,2,none⟩=some (.slice Ar f.regs.length cr):=hc1 2 _ rfl;have f3:w1.cell? ⟨w.heap.size+1,3,none⟩=some (.slice Ab f.blocks.length cb):=hc1 3 _ rfl;have hs1:w.heap.size+1<w1.heap.size:=by omega
  clear hwa hw1 hsa hca hc1 hka hk1 hba hb1;have hk1:=q6 hB1;refine (isWithin_any f _ _ (VFun.keep hk1 hf0) hlim).mono ?_;rintro e w2 ⟨rfl,hb2⟩;have hB2:Below w.heap.size w w2:=hB1.trans (hb2.mono hB1.size);have hk2:=q6 hb2;have q0:=hk2 _ _ q0;have f0:=hk2 _ _ f0;have f1:=hk2 _ _ f1
  have f2:=hk2 _ _ f2;have f3:=hk2 _ _ f3;(have hs2:w.heap.size+1<w2.heap.size:=by have:=hb2.size;omega);cases hwi:withinB f
  · (have HE:Hid (funE m f=5):=Lib.hid (by unfold funE qU;rw [hwi];rfl));clear hwi;(go_wp2_with fail);(go_ret);exact ⟨by rw [HE.out];rfl,hB2⟩
  · have HWI:=Lib.hid hwi;(have hn64:f.blocks.length≤64:=by unfold withinB at hwi;exact (of_decide_eq_true hwi).2.1);clear hwi;(go_wp2_with fail);refine (isTyped_any f _ _ (VFun.keep (hk1.trans hk2) hf0)).mono ?_;rintro e w3 ⟨rfl,hb3⟩;have hB3:Below w.heap.size w w3:=hB2.trans (hb3.mono hB2.size);have hk3:=q6 hb3;have q0:=hk3 _ _ q0
    have f0:=hk3 _ _ f0;have f1:=hk3 _ _ f1;have f2:=hk3 _ _ f2;have f3:=hk3 _ _ f3;cases hty:qd f
    · (have HE:Hid (funE m f=3):=Lib.hid (by unfold funE qU;rw [HWI.out,hty];rfl));clear hty;(go_wp2_with fail);(go_ret);exact ⟨by rw [HE.out];rfl,hB3⟩
    · have HTY:=Lib.hid hty;clear hty;(go_wp2_with fail);refine (endsWell_any f _ _ (VFun.keep ((hk1.trans hk2).trans hk3) hf0)).mono ?_;rintro e w4 ⟨rfl,hb4⟩;have hB4:Below w.heap.size w w4:=hB3.trans (hb4.mono hB3.size);have hk4:=q6 hb4;have q0:=hk4 _ _ q0;have f0:=hk4 _ _ f0
      have f1:=hk4 _ _ f1;have f2:=hk4 _ _ f2;have f3:=hk4 _ _ f3;cases hew:qr f
      · (have HE:Hid (funE m f=6):=Lib.hid (by unfold funE qU;rw [HWI.out,HTY.out,hew];rfl));clear hew;(go_wp2_with fail);(go_ret);exact ⟨by rw [HE.out];rfl,hB4⟩
      · have HEW:=Lib.hid hew;clear hew;(go_wp2_with fail);refine (phisMeet_any f _ _ (VFun.keep (((hk1.trans hk2).trans hk3).trans hk4) hf0) (by omega)).mono ?_;rintro e w5 ⟨rfl,hb5⟩;have hB5:Below w.heap.size w w5:=hB4.trans (hb5.mono hB4.size);have hk5:=q6 hb5;have hK5:=(((hk1.trans hk2).trans hk3).trans hk4).trans hk5;have q0:=hk5 _ _ q0
        have f0:=hk5 _ _ f0;have f1:=hk5 _ _ f1;have f2:=hk5 _ _ f2;have f3:=hk5 _ _ f3;(have hs5:w.heap.size+1<w5.heap.size:=by have:=hb3.size;have:=hb4.size;have:=hb5.size;omega);cases hme:meetB f
        · (have HE:Hid (funE m f=6):=Lib.hid (by unfold funE qU;rw [HWI.out,HTY.out,HEW.out,hme];rfl));clear hme;(go_wp2_with fail);(go_ret);exact ⟨by rw [HE.out];rfl,hB5⟩
        · have HO:Hid (funE m f=qL (f.blocks.map (qS m f))):=Lib.hid (by
            have:qU f=0:=by unfold qU;rw [HWI.out,HTY.out,HEW.out,hme];rfl
            unfold funE;rw [if_pos this])
          clear hme;go_wp2_with fail
          go_loopw [29] (fun i wr=>∃ k:Nat,k≤f.blocks.length∧i=.int .i64 k∧Below w5.heap.size w5 wr∧Hid (qL ((f.blocks.take k).map (qS m f))=0)) (fun i _=>f.blocks.length - (intOf i).toNat)
          case atStart=>exact ⟨0,Nat.zero_le _,rfl,Below.refl _ _,Lib.hid rfl⟩
          case round =>
            obtain ⟨k,hk,rfl,hbel,hi⟩:=hrel;have hkw:Kept w5 wr:=q6 hbel;have hB:Below w.heap.size w wr:=hB5.trans (hbel.mono hB5.size);have hso:=hbel.size;have a0:=hkw _ _ q0;have e0:=hkw _ _ f0;have e1:=hkw _ _ f1;have e2:=hkw _ _ f2;have e3:=hkw _ _ f3
            (have n0:w.heap.size<wr.heap.size:=by omega);have n1:w.heap.size+1<wr.heap.size:=by omega
            by_cases hlt:k<f.blocks.length
            · obtain ⟨bb,oo,b,rfl,hx,⟨Ap,cp,h0,z0⟩,⟨Ai,ci,h1,z1⟩,⟨h2,z2⟩,⟨h3,z3⟩,⟨At,ct,h4,z4⟩⟩:=(SBlks.keep (hK5.trans hkw) hbs).at_ hlt;(go_wp2_with fail);obtain ⟨wn,hwn,hsn,hkn,hbn,-,-⟩:=named wr #[.slice Ap b.phis.length cp,.slice Ai b.ins.length ci,.int .i64 b.term.kind,.int .i64 b.term.arg,.slice At b.term.to.length ct] 51;have hbn':Below w5.heap.size w5 wn:=hbel.trans (hbn.mono (by omega));have hBn:Below w.heap.size w wn:=hB.trans (hbn.mono hB.size);rw [← hwn];clear hwn hsn;have hK:=(hK5.trans hkw).trans hkn;refine (ofBlock_any OI m f b _ _ _ _ (VMod.keep hK hm0) (VFun.keep hK hf0) ⟨Ap,cp,Ai,ci,At,ct,rfl,SPhis.keep hkn z0,SInss.keep hkn z1,SInts.keep hkn z4,z2,z3⟩ (typed_regs HTY.out)).mono ?_
              rintro e w7 ⟨rfl,hb7⟩;have hb7':Below w5.heap.size w5 w7:=hbn'.trans (hb7.mono hbn'.size);have hB7:Below w.heap.size w w7:=hBn.trans (hb7.mono hBn.size)
              by_cases hc:qS m f b=0
              · have HC:=Lib.hid hc;rw [hc,errV_zero];clear hc;go_wp2_with fail
                go_roundw
                case rel=>exact ⟨k+1,by omega,by go_num,hb7',Lib.hid (by rw [first_map_at (qS m f) hx.out hi.out];exact HC.out)⟩
                case measure=>simp [intOf];omega
              · (have HC:Hid (funE m f=qS m f b):=Lib.hid (by rw [HO.out];exact first_map_stop (qS m f) hx.out hi.out hc));rw [errV_pos hc];have HC2:=Lib.hid hc;clear hc;(go_wp2_with fail);(go_ret);exact ⟨by rw [HC.out,errV_pos HC2.out];rfl,hB7⟩
            · (have HE:Hid (funE m f=0):=Lib.hid (by rw [HO.out];exact first_map_done (qS m f) hi.out (Nat.le_of_not_lt hlt)));(go_wp2_with fail);(go_ret);exact ⟨by rw [HE.out];rfl,hB⟩
def ErrAt (w:World) (v:Value) (p:Int × Int):Prop :=
  (p.1=0∧v=.nilIface)∨(p.1≠0∧p.2=-1∧v=.iface 39 (.int .i64 p.1)) ∨
  (p.1≠0∧0≤p.2∧∃ g,v=.iface 72 (.pointer (some ⟨g,0,none⟩))∧w.cell? ⟨g,0,none⟩=some (.int .i64 p.2)∧w.cell? ⟨g,1,none⟩=some (.iface 39 (.int .i64 p.1)))
theorem ErrAt.nil {w:World} {v:Value} {p:Int × Int} (hv:ErrAt w v p) (hp:p.1=0):v=.nilIface:=by
  rcases hv with h1 | h1 | h1
  · exact h1.2
  · exact absurd hp h1.1
  · exact absurd hp h1.1
theorem ErrAt.iface {w:World} {v:Value} {p:Int × Int} (hv:ErrAt w v p) (hp:p.1≠0):∃ t x,v=.iface t x:=by
  rcases hv with h1 | h1 | ⟨_,_,g,h3,_⟩
  · exact absurd h1.1 hp
  · exact ⟨_,_,h1.2.2⟩
  · exact ⟨_,_,h3⟩
set_option maxRecDepth 100000 in
set_option maxHeartbeats 4000000 in
theorem module_any (OI:OfIns) (m:List FunD) (vm:Value) (w:World) (hm:VMod w vm m) (hlim:∀ f∈m,Lim f) :
    Calls Tryz.prog 34 #[vm] w fun e w'=>(∃ v,e=.returned v∧ErrAt w' v (modE m))∧Below w.heap.size w w':=by
  have hm0:=hm;obtain ⟨Am,cm,rfl,hms⟩:=hm;have hml:=hms.len
  by_cases h32:32<m.length
  · have HE:Hid (modE m=(5,-1)):=Lib.hid (if_pos h32);(go_enter Tryz.func34,Tryz.ntmps34);(go_wp2_with fail);(go_ret);exact ⟨⟨_,rfl,by rw [HE.out];exact .inr (.inl ⟨by decide,rfl,rfl⟩)⟩,(Below.refl _ _).alloc (Nat.le_refl _) _⟩
  · have HM:Hid (modE m=modK m m 0):=Lib.hid (if_neg h32);(go_enter Tryz.func34,Tryz.ntmps34);(go_wp2_with fail);obtain ⟨w1,hw1,hs1,hk1,hB1,hc1,-⟩:=named w #[.slice Am m.length cm] 24;rw [← hw1];have q0:w1.cell? ⟨w.heap.size,0,none⟩=some (.slice Am m.length cm):=hc1 0 _ rfl;(have hs1:w.heap.size<w1.heap.size:=by omega);clear hw1 hc1
    go_loopw [14] (fun i wr=>∃ k:Nat,k≤m.length∧i=.int .i64 k∧Below w1.heap.size w1 wr∧Hid ((modK m (m.take k) 0).1=0)) (fun i _=>m.length - (intOf i).toNat)
    case atStart=>exact ⟨0,Nat.zero_le _,rfl,Below.refl _ _,Lib.hid rfl⟩
    case round =>
      obtain ⟨k,hk,rfl,hbel,hi⟩:=hrel;have hkw:Kept w1 wr:=q6 hbel;have hB:Below w.heap.size w wr:=hB1.trans (hbel.mono hB1.size);have hso:=hbel.size;have a0:=hkw _ _ q0;have n0:w.heap.size<wr.heap.size:=by omega
      by_cases hlt:k<m.length
      · obtain ⟨bb,oo,f,rfl,hx,⟨h0,z0⟩,⟨h1,z1⟩,⟨Ar,cr,h2,z2⟩,Ab,cb,h3,z3⟩:=(SFuns.keep (hk1.trans hkw) hms).at_ hlt;(go_wp2_with fail);obtain ⟨wn,hwn,hsn,hkn,hbn,-,-⟩:=named wr #[.int .i64 f.params,.int .i64 f.result,.slice Ar f.regs.length cr,.slice Ab f.blocks.length cb] 30;have hbn':Below w1.heap.size w1 wn:=hbel.trans (hbn.mono (by omega));have hBn:Below w.heap.size w wn:=hB.trans (hbn.mono hB.size);rw [← hwn];clear hwn hsn;have hK:=(hk1.trans hkw).trans hkn;refine (ofFunc_any OI m f _ _ _ (VMod.keep hK hm0) ⟨Ar,cr,Ab,cb,rfl,SInts.keep hkn z2,SBlks.keep hkn z3,z0,z1⟩ (hlim f (List.mem_of_getElem? hx.out))).mono ?_
        rintro e w7 ⟨rfl,hb7⟩;have hb7':Below w1.heap.size w1 w7:=hbn'.trans (hb7.mono hbn'.size);have hB7:Below w.heap.size w w7:=hBn.trans (hb7.mono hBn.size)
        by_cases hc:funE m f=0
        · have HC:=Lib.hid hc;rw [hc,errV_zero];clear hc;go_wp2_with fail
          go_roundw
          case rel=>exact ⟨k+1,by omega,by go_num,hb7',Lib.hid (by rw [modK_step hx.out hi.out,if_pos HC.out])⟩
          case measure=>simp [intOf];omega
        · (have HC:Hid (modE m=(funE m f,(k:Int))):=Lib.hid (by rw [HM.out];exact modK_stop hx.out hi.out hc));rw [errV_pos hc];have HC2:=Lib.hid hc;clear hc;(go_wp2_with fail);(go_ret);exact ⟨⟨_,rfl,by rw [HC.out];exact .inr (.inr ⟨HC2.out,by show (0:Int)≤k;omega,w7.heap.size,rfl,by simp,by simp⟩)⟩,hB7.alloc hB7.size _⟩
      · have HE:Hid (modE m=(0,-1)):=Lib.hid (by
          have:=hi.out;rw [List.take_of_length_le (Nat.le_of_not_lt hlt)] at this
          rw [HM.out];exact modK_ok this)
        (go_wp2_with fail);(go_ret);exact ⟨⟨_,rfl,by rw [HE.out];exact .inl ⟨rfl,rfl⟩⟩,hB⟩
theorem ins_dst {m:List FunD} {f:FunD} {x:InsD} (h:insE m f x=0):(∀ a∈x.args,InR f.regs.length a)∧(x.dst=-1∨InR f.regs.length x.dst):=by
  unfold insE at h
  by_cases h17:x.op=17
  · rw [if_pos h17] at h;obtain ⟨h1,h⟩:=qa (by decide) h;obtain ⟨h2,h⟩:=qa (by decide) h;obtain ⟨g1,g2⟩:=rest_in h;exact ⟨g1,by rcases g2 with g2 | g2;exact .inl g2.2;exact .inr g2.2⟩
  · rw [if_neg h17] at h
    split at h
    · exact absurd h (by decide)
    · rename_i ts d hs;obtain ⟨hl,h⟩:=qa (by decide) h;obtain ⟨g1,g2⟩:=rest_in h;exact ⟨g1,by rcases g2 with g2 | g2;exact .inl g2.2;exact .inr g2.2⟩
theorem term_arg {f:FunD} {t:TermD} (h:termE f t=0):t.arg=-1∨InR f.regs.length t.arg:=by
  unfold termE at h
  by_cases h0:qp f t=0
  · rw [if_pos h0] at h;exact .inl (qa (by decide) h).1
  · rw [if_neg h0] at h;exact .inr (qa (by decide) h).1
theorem lim_of_small {m:List FunD} (h:SmallM m):∀ f∈m,Lim f:=fun f hf b hb=>by
  have:=(h.2 f hf).2.2.2 b hb;exact ⟨by have:=this.2.1;omega,by have:=this.1;omega⟩
end Go.Proofs.YtfoggldjjnabcaaGreatDoor
