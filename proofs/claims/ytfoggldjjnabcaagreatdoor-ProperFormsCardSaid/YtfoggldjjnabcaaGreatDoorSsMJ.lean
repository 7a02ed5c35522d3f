/- The program's namedTooSoon$1: what is done with each register that is named. -/
import Derived.Test.YtfoggldjjnabcaaGreatDoorPpCJ
import Derived.Deep.RegionHeld3
import Derived.RowKit
import Derived.IntWalk
import Derived.Laws.BitsAll
import Derived.Laws.Bits64
import Derived.Laws.Bits64b
import Derived.Test.YtfoggldjjnabcaaGreatDoorAheadGJ
import Derived.Test.YtfoggldjjnabcaaGreatDoorInfBJ
namespace Go.Proofs.YtfoggldjjnabcaaGreatDoor
open Go.ChangeShapes Go.WideShapes Go.RowKit Go.Deep
set_option linter.unusedVariables false
set_option linter.unusedSimpArgs false
def badB (f:FunD) (e:Mk):Bool:=decide (f.params≤e.r) && !(ahB (dmB f.blocks) (fstM (evL f) e.r.toNat) e)
structure SnP (f:FunD) (Ar Ab:Option Addr) (cr cb GK BF BK BD BS GS G D0:Nat) (l:List Mk) (w:World):Prop where
  s:w.rowIs GS 4 f.regs.length (fun j=>.bool (l.any fun e=>decide (e.r=(j:Int)) && badB f e))
  k:w.rowIs GK 90 (2 * f.regs.length) (mkF (evL f))
  d:BGr w G D0 f.blocks.length (dmB f.blocks)
  bf:w.heap[BF]?=some (.cells #[.int .i64 f.params,.int .i64 f.result,.slice Ar f.regs.length cr,.slice Ab f.blocks.length cb] 30)
  bk:w.heap[BK]?=some (.cells #[.slice (some ⟨GK,0,none⟩) f.regs.length f.regs.length] 131)
  bd:w.heap[BD]?=some (.cells #[.slice (some ⟨G,0,none⟩) f.blocks.length f.blocks.length] 59)
  bs:w.heap[BS]?=some (.cells #[.slice (some ⟨GS,0,none⟩) f.regs.length f.regs.length] 64)
section
variable {f:FunD} {Ar Ab:Option Addr} {cr cb GK BF BK BD BS GS G D0:Nat} {l:List Mk} {w w':World}
theorem BGr.below {n:Nat} {D:Nat→Nat→Bool} (h:BGr w G D0 n D) (hb:Below w.heap.size w w'):BGr w' G D0 n D :=
  ⟨h.row.of_block (hb.block _ h.row.lt),fun a ha=>(h.cells a ha).of_block (hb.block _ (h.cells a ha).lt),h.lt⟩
theorem SnP.below (h:SnP f Ar Ab cr cb GK BF BK BD BS GS G D0 l w) (hb:Below w.heap.size w w'):SnP f Ar Ab cr cb GK BF BK BD BS GS G D0 l w' :=
  ⟨h.s.of_block (hb.block _ h.s.lt),h.k.of_block (hb.block _ h.k.lt),h.d.below hb,(hb.block _ (qO h.bf)).trans h.bf,(hb.block _ (qO h.bk)).trans h.bk,(hb.block _ (qO h.bd)).trans h.bd,(hb.block _ (qO h.bs)).trans h.bs⟩
theorem SnP.grow (h:SnP f Ar Ab cr cb GK BF BK BD BS GS G D0 l w) {l':List Mk} (hx:FrX (fun b=>b=GS) w w') (hs:w'.rowIs GS 4 f.regs.length (fun j=>.bool (l'.any fun e=>decide (e.r=(j:Int)) && badB f e)))
    (h1:GK≠GS) (h2:G≠GS) (h3:∀ a,a<f.blocks.length→D0+a≠GS) (h4:BF≠GS) (h5:BK≠GS) (h6:BD≠GS) (h7:BS≠GS):SnP f Ar Ab cr cb GK BF BK BD BS GS G D0 l' w' :=
  ⟨hs,h.k.of_block (hx.block _ h.k.lt h1),⟨h.d.row.of_block (hx.block _ h.d.row.lt h2),fun a ha=>(h.d.cells a ha).of_block (hx.block _ (h.d.cells a ha).lt (h3 a ha)),h.d.lt⟩,
   (hx.block _ (qO h.bf) h4).trans h.bf,(hx.block _ (qO h.bk) h5).trans h.bk,(hx.block _ (qO h.bd) h6).trans h.bd,(hx.block _ (qO h.bs) h7).trans h.bs⟩
theorem any_snoc {l:List Mk} {e:Mk} {p:Mk→Bool}:(l++[e]).any p=(l.any p || p e):=by rw [List.any_append];simp
set_option maxRecDepth 100000 in
set_option maxHeartbeats 16000000 in
theorem soon_step (e:Mk) (h:SnP f Ar Ab cr cb GK BF BK BD BS GS G D0 l w) (h1:GK≠GS) (h2:G≠GS) (h3:∀ a,a<f.blocks.length→D0+a≠GS) (h4:BF≠GS) (h5:BK≠GS) (h6:BD≠GS) (h7:BS≠GS)
    (hr0:0≤e.r) (hrn:e.r<f.regs.length) (hb0:0≤e.b) (hbn:e.b<f.blocks.length) (hm:∀ r,(fstM (evL f) r).b<f.blocks.length) (hnb:f.blocks.length≤1000) :
    Calls Tryz.prog 81 #[.int .i64 e.r,e.v,.pointer (some ⟨BF,0,none⟩),.pointer (some ⟨BK,0,none⟩),.pointer (some ⟨BD,0,none⟩),.pointer (some ⟨BS,0,none⟩)] w fun en w'=>en=.returned (.tuple #[])∧SnP f Ar Ab cr cb GK BF BK BD BS GS G D0 (l++[e]) w'∧FrX (fun b=>b=GS) w w':=by
  obtain ⟨r,b,a⟩:=e;obtain ⟨k,rfl⟩:=Int.eq_ofNat_of_zero_le (show (0:Int)≤r from hr0);(have hkn:k<f.regs.length:=by have:((k:Nat):Int)<f.regs.length:=hrn;omega);(have hk1:((k:Nat):Int)<f.regs.length:=by omega);(have hk0:(0:Int)≤k:=by omega);have HBI:=Lib.hid (And.intro hb0 hbn);have HM:=Lib.hid (hm k);have H:=Lib.hid h;obtain ⟨mk,hmk⟩:∃ mk,mk=fstM (evL f) k:=⟨_,rfl⟩
  have HMK:=Lib.hid hmk;obtain ⟨mr,mb,ma⟩:=mk;unfold Mk.v;have HNE:=Lib.hid (And.intro h1 (And.intro h2 (And.intro h3 (And.intro h4 (And.intro h5 (And.intro h6 h7))))));clear h hr0 hrn hb0 hbn hm h1 h2 h3 h4 h5 h6 h7 hmk;(go_enter Tryz.func81,Tryz.ntmps81);(go_upto_region 1 with fail);obtain ⟨w1,hw1,hs1,hk1',hbel1,hc1,-⟩:=named w #[.int .i64 b,.int .i64 a] 90;rw [← hw1]
  obtain ⟨N,hN⟩:∃ N,N=w.heap.size:=⟨_,rfl⟩;rw [← hN] at hc1 ⊢;have x0:w1.cell? ⟨N,0,none⟩=some (.int .i64 b):=hc1 0 _ rfl;have x1:w1.cell? ⟨N,1,none⟩=some (.int .i64 a):=hc1 1 _ rfl;have h1:=H.out.below hbel1;have H1:=Lib.hid h1;have f0:w1.cell? ⟨BF,0,none⟩=some (.int .i64 f.params):=q7 h1.bf 0;have k0:w1.cell? ⟨BK,0,none⟩=some (.slice (some ⟨GK,0,none⟩) f.regs.length f.regs.length):=q7 h1.bk 0;have d0:w1.cell? ⟨BD,0,none⟩=some (.slice (some ⟨G,0,none⟩) f.blocks.length f.blocks.length):=q7 h1.bd 0
  have s0:w1.cell? ⟨BS,0,none⟩=some (.slice (some ⟨GS,0,none⟩) f.regs.length f.regs.length):=q7 h1.bs 0;have r0:w1.cell? ⟨GK,k * 2,none⟩=some (.int .i64 mb):=by
    have:=h1.k.cell (i:=k * 2) (by omega);rw [this];unfold mkF;rw [if_pos (by omega),show k * 2 / 2=k by omega,← HMK.out]
  have r1:w1.cell? ⟨GK,k * 2+1,none⟩=some (.int .i64 ma):=by
    have:=h1.k.cell (i:=k * 2+1) (by omega);rw [this];unfold mkF;rw [if_neg (by omega),show (k * 2+1) / 2=k by omega,← HMK.out]
  have HB1:=Lib.hid hbel1;clear hw1 hs1 hk1' hbel1 hc1 h1 hN
  by_cases hp:f.params≤k
  · have hpd:decide (f.params≤(k:Int))=true:=decide_eq_true hp
    have HS:Hid (∀ W,Below w1.heap.size w1 W→W.cell? ⟨BF,0,none⟩=some (.int .i64 f.params)∧W.cell? ⟨BK,0,none⟩=some (.slice (some ⟨GK,0,none⟩) f.regs.length f.regs.length)∧W.cell? ⟨GK,k * 2,none⟩=some (.int .i64 mb)∧W.cell? ⟨GK,k * 2+1,none⟩=some (.int .i64 ma)∧W.cell? ⟨BD,0,none⟩=some (.slice (some ⟨G,0,none⟩) f.blocks.length f.blocks.length)∧W.cell? ⟨N,0,none⟩=some (.int .i64 b)∧W.cell? ⟨N,1,none⟩=some (.int .i64 a)):=Lib.hid (fun W hW =>
      ⟨q6 hW _ _ f0,q6 hW _ _ k0,q6 hW _ _ r0,q6 hW _ _ r1,q6 hW _ _ d0,q6 hW _ _ x0,q6 hW _ _ x1⟩)
    have HIA:Hid (∀ W,Below w1.heap.size w1 W→Calls Tryz.prog 82 #[.agg #[.int .i64 mb,.int .i64 ma],.agg #[.int .i64 b,.int .i64 a],.slice (some ⟨G,0,none⟩) f.blocks.length f.blocks.length] W fun en w'=>en=.returned (.bool (ahB (dmB f.blocks) ⟨mr,mb,ma⟩ ⟨((k:Nat):Int),b,a⟩))∧Below W.heap.size W w'):=Lib.hid (fun W hW =>
      isAhead_any f.blocks.length G D0 (dmB f.blocks) ⟨mr,mb,ma⟩ ⟨((k:Nat):Int),b,a⟩ W (H1.out.d.below hW) (by have:=HM.out;rw [← HMK.out] at this;exact this) HBI.out hnb)
    obtain ⟨rr,hrr⟩:∃ rr,rr=ahB (dmB f.blocks) ⟨mr,mb,ma⟩ ⟨((k:Nat):Int),b,a⟩:=⟨_,rfl⟩;rw [← hrr] at HIA;have HRR:=Lib.hid hrr;clear f0 k0 d0 r0 r1 x0 x1 hrr;go_region_held3 (fun W=>W.cell? ⟨BF,0,none⟩=some (.int .i64 f.params)∧W.cell? ⟨BK,0,none⟩=some (.slice (some ⟨GK,0,none⟩) f.regs.length f.regs.length)∧W.cell? ⟨GK,k * 2,none⟩=some (.int .i64 mb)∧W.cell? ⟨GK,k * 2+1,none⟩=some (.int .i64 ma)∧W.cell? ⟨BD,0,none⟩=some (.slice (some ⟨G,0,none⟩) f.blocks.length f.blocks.length)∧W.cell? ⟨N,0,none⟩=some (.int .i64 b)∧W.cell? ⟨N,1,none⟩=some (.int .i64 a))
      (first
        | exact HS.out _ HBS.out
        | (refine HS.out _ ?_;repeat (first | exact Below.refl _ _ | refine Below.drew ?_)))
      (first
        | (go_at_call 82;refine (HIA.out _ (Below.refl w1.heap.size w1).drew).mono ?_;rintro e wd ⟨rfl,hbd⟩;have HBS:=Lib.hid ((Below.refl w1.heap.size w1).drew.trans hbd)))
    have HBW:Hid (Below w.heap.size w wd):=Lib.hid (HB1.out.trans (HBS.out.mono HB1.out.size));have HD:Hid (SnP f Ar Ab cr cb GK BF BK BD BS GS G D0 l wd):=Lib.hid (H1.out.below HBS.out)
    have HAN:Hid (badB f ⟨((k:Nat):Int),b,a⟩=!rr):=Lib.hid (by
      show (decide (f.params≤((k:Nat):Int)) && !(ahB (dmB f.blocks) (fstM (evL f) ((k:Nat):Int).toNat) ⟨((k:Nat):Int),b,a⟩))=_
      rw [hpd,Int.toNat_natCast,← HMK.out,← HRR.out];rfl)
    have s1:=q7 HD.out.bs 0;have t0:=HD.out.s.cell hkn;have t1:=HD.out.s.frozen k;clear s0 hbd;clear hpd;cases rr
    · have hnr:(!false)=true:=rfl;(go_wp2_with fail);(go_end0);have hx:FrX (fun b=>b=GS) w (wd.setCell ⟨GS,k,none⟩ (.bool true)):=FrX.setCell (X:=fun b=>b=GS) (FrX.of_below HBW.out) (p:=⟨GS,k,none⟩) (.inl rfl) _;refine ⟨rfl,?_,hx⟩;obtain ⟨h1,h2,h3,h4,h5,h6,h7⟩:=HNE.out;refine HD.out.grow (FrX.setCell (X:=fun b=>b=GS) (FrX.refl _ wd) (p:=⟨GS,k,none⟩) (.inl rfl) _) ((HD.out.s.set k (.bool true)).congr fun j _=>?_) h1 h2 h3 h4 h5 h6 h7;rw [any_snoc]
      by_cases e:j=k
      · subst e;simp [HAN.out]
      · rw [if_neg e,decide_eq_false (by show ¬ ((k:Nat):Int)=(j:Int);omega)];simp
    · have hnr:(!true)=false:=rfl;clear t0 t1 s1;(go_wp2_with fail);(go_end0);refine ⟨rfl,?_,FrX.of_below HBW.out⟩;obtain ⟨h1,h2,h3,h4,h5,h6,h7⟩:=HNE.out;refine HD.out.grow (FrX.refl _ wd) (HD.out.s.congr fun j _=>?_) h1 h2 h3 h4 h5 h6 h7;rw [any_snoc,HAN.out];simp
  · have hpd:decide (f.params≤(k:Int))=false:=decide_eq_false hp
    have HAN:Hid (badB f ⟨((k:Nat):Int),b,a⟩=false):=Lib.hid (by
      show (decide (f.params≤((k:Nat):Int)) && _)=_
      rw [hpd];rfl)
    (go_big_quiet (fail));clear f0 k0 d0 s0 r0 r1 x0 x1;(go_wp2_with fail);(go_end0);have hdr:Below w1.heap.size w1 (w1.drewN nq):=⟨rfl,rfl,rfl,Nat.le_refl _,fun _ _=>rfl⟩;refine ⟨rfl,?_,FrX.of_below (HB1.out.trans (hdr.mono HB1.out.size))⟩;obtain ⟨h1,h2,h3,h4,h5,h6,h7⟩:=HNE.out;refine (H1.out.below hdr).grow (FrX.refl _ _) ((H1.out.below hdr).s.congr fun j _=>?_) h1 h2 h3 h4 h5 h6 h7;rw [any_snoc,HAN.out];simp
end
end Go.Proofs.YtfoggldjjnabcaaGreatDoor

namespace Go.Proofs.YtfoggldjjnabcaaGreatDoor
open Go.RowKit
def pl (b:Int):Int:=bits .and .u64 (IntKind.u64.wrap b) 63
def one (op a:Int):Int:=if op=14 then wrap64 (1 - a) else a
def opArity (op:Int):Int:=if op=2∨op=14 then 1 else if 3≤op∧op≤13 then 2 else 0
def blkAt (f:FunD) (i:Nat):BlkD:=f.blocks.getD i default
def InR (n:Nat) (a:Int):Prop:=0≤a∧a<n
def InsOk (m:List FunD) (n:Nat) (x:InsD):Prop :=
  (∀ a∈x.args,InR n a) ∧
  ((x.op=1∧InR n x.dst)∨(2≤x.op∧x.op≤14∧(x.args.length:Int)=opArity x.op∧InR n x.dst)∨(x.op=15∧x.args.length=1∧InR n x.dst) ∨
   (x.op=16∧x.args.length=2)∨(x.op=18∧x.args.length=1) ∨
   (x.op=17∧InR m.length x.fn∧(x.args.length:Int)=(funAt m x.fn).params∧(x.dst=-1∨InR n x.dst)))
structure FunOk (m:List FunD) (f:FunD):Prop where
  nb:1≤f.blocks.length∧f.blocks.length≤64
  nr:f.regs.length≤256
  par:0≤f.params∧f.params≤8∧f.params≤f.regs.length
  items:∀ b∈f.blocks,b.phis.length+b.ins.length≤256
  tos:∀ b∈f.blocks,∀ t∈b.term.to,1≤t∧t<f.blocks.length
  kind:∀ b∈f.blocks,(b.term.kind=1∧b.term.to.length=1)∨(b.term.kind=2∧b.term.to.length=2∧InR f.regs.length b.term.arg)∨(b.term.kind=3∧b.term.to.length=0∧(b.term.arg=-1∨InR f.regs.length b.term.arg))
  phis:∀ (i:Nat) (b:BlkD),f.blocks[i]?=some b→∀ p∈b.phis,p.args.length=(qG f.blocks i).length∧InR f.regs.length p.dst∧∀ a∈p.args,InR f.regs.length a
  ins:∀ b∈f.blocks,∀ x∈b.ins,InsOk m f.regs.length x
theorem qa {c:Prop} [Decidable c] {a b:Int} (hb:b≠0) (h:(if c then a else b)=0):c∧a=0:=by
  split at h
  · exact ⟨‹c›,h⟩
  · exact absurd h hb
theorem outer_four {f:FunD} (h:qU f=0):withinB f=true∧qd f=true∧qr f=true∧meetB f=true:=by
  unfold qU at h;obtain ⟨h1,h⟩:=qa (by decide) h;obtain ⟨h2,h⟩:=qa (by decide) h;obtain ⟨h3,-⟩:=qa (by decide) h;rw [Bool.and_eq_true] at h3;exact ⟨h1,h2,h3.1,h3.2⟩
theorem items_le {bs:List BlkD} {b:BlkD} (h:b∈bs):b.phis.length+b.ins.length≤z7 bs:=by
  unfold z7
  induction bs with
  | nil=>cases h
  | cons x r ih =>
    simp only [List.map_cons,List.sum_cons];rcases List.mem_cons.1 h with rfl | h
    · omega
    · have:=ih h;omega
theorem meetK_get {bs l:List BlkD} {i:Nat} (h:meetK bs l i=true):∀ (k:Nat) (b:BlkD),l[k]?=some b→∀ p∈b.phis,p.args.length=(qG bs (i+k:Nat)).length:=by
  induction l generalizing i with
  | nil=>intro k b hk;simp at hk
  | cons x r ih =>
    simp only [meetK,Bool.and_eq_true] at h;intro k b hk p hp;cases k with
    | zero =>
      obtain rfl:=Option.some.inj hk;exact of_decide_eq_true (List.all_eq_true.1 h.1 p hp)
    | succ k =>
      have:=ih h.2 k b hk p hp
      rwa [show i+1+k=i+(k+1) by omega] at this
theorem are_in {l:List Int} {n:Nat} (h:qQ l n=true):∀ a∈l,InR n a:=fun a ha=>by
  have:=of_decide_eq_true (List.all_eq_true.1 h a ha);exact ⟨this.1,this.2⟩
theorem inR_of {n:Nat} {a:Int} (h:isIn n a=true):InR n a:=of_decide_eq_true (p:=0≤a∧a<n) h
theorem rest_in {f:FunD} {x:InsD} {ts:List Int} {d:Int} {bad:Bool} (h:restE f x ts d bad=0):(∀ a∈x.args,InR f.regs.length a)∧((d=0∧x.dst=-1)∨(0<d∧InR f.regs.length x.dst)):=by
  unfold restE at h;obtain ⟨h1,h⟩:=qa (by decide) h;obtain ⟨h2,-⟩:=qa (by decide) h;rw [Bool.and_eq_true,Bool.or_eq_true] at h1;simp only [Bool.and_eq_true] at h2;refine ⟨are_in h1.1,?_⟩;have h3:=h2.1.1.1.2
  by_cases hd:d=0
  · rw [if_pos hd] at h3;exact .inl ⟨hd,of_decide_eq_true h3⟩
  · rw [if_neg hd] at h3;have:=of_decide_eq_true h3;rcases h1.2 with h4 | h4
    · exact absurd (of_decide_eq_true h4) hd
    · exact .inr ⟨this.1,inR_of h4⟩
theorem ins_in {m:List FunD} {f:FunD} {x:InsD} (hty:∀ t∈f.regs,t=1∨t=2) (h:insE m f x=0):InsOk m f.regs.length x:=by
  unfold insE at h
  by_cases h17:x.op=17
  · rw [if_pos h17] at h;obtain ⟨h1,h⟩:=qa (by decide) h;obtain ⟨h2,h⟩:=qa (by decide) h;obtain ⟨g1,g2⟩:=rest_in h;refine ⟨g1,.inr (.inr (.inr (.inr (.inr ⟨h17,inR_of h1,h2,?_⟩))))⟩;rcases g2 with g2 | g2
    · exact .inl g2.2
    · exact .inr g2.2
  · rw [if_neg h17] at h
    split at h
    · exact absurd h (by decide)
    · rename_i ts d hs;obtain ⟨hl,h⟩:=qa (by decide) h;obtain ⟨g1,g2⟩:=rest_in h;have hdt:dstT f x=1∨dstT f x=2:=by
        unfold dstT
        split
        · rename_i hin;have hr:=of_decide_eq_true hin;(have hlt:x.dst.toNat<f.regs.length:=by omega);unfold reg;rw [List.getD_eq_getElem?_getD,List.getElem?_eq_getElem hlt];exact hty _ (List.getElem_mem hlt)
        · exact .inl rfl
      refine ⟨g1,?_⟩;unfold sigOf at hs
      by_cases o1:x.op=1
      · rw [if_pos o1] at hs;simp only [Option.some.injEq,Prod.mk.injEq] at hs;rcases g2 with g2 | g2
        · omega
        · exact .inl ⟨o1,g2.2⟩
      rw [if_neg o1] at hs
      by_cases o2:x.op=2
      · rw [if_pos o2] at hs;simp only [Option.some.injEq,Prod.mk.injEq] at hs;rcases g2 with g2 | g2
        · omega
        · exact .inr (.inl ⟨by omega,by omega,by rw [hl,← hs.1,o2];rfl,g2.2⟩)
      rw [if_neg o2] at hs
      by_cases o12:x.op=12∨x.op=13
      · rw [if_pos o12] at hs;simp only [Option.some.injEq,Prod.mk.injEq] at hs;rcases g2 with g2 | g2
        · omega
        · exact .inr (.inl ⟨by omega,by omega,by rw [hl,← hs.1];rcases o12 with o | o <;> rw [o] <;> rfl,g2.2⟩)
      rw [if_neg o12] at hs
      by_cases o14:x.op=14
      · rw [if_pos o14] at hs;simp only [Option.some.injEq,Prod.mk.injEq] at hs;rcases g2 with g2 | g2
        · omega
        · exact .inr (.inl ⟨by omega,by omega,by rw [hl,← hs.1,o14];rfl,g2.2⟩)
      rw [if_neg o14] at hs
      by_cases o15:x.op=15
      · rw [if_pos o15] at hs;simp only [Option.some.injEq,Prod.mk.injEq] at hs;rcases g2 with g2 | g2
        · omega
        · exact .inr (.inr (.inl ⟨o15,by rw [hl,← hs.1];rfl,g2.2⟩))
      rw [if_neg o15] at hs
      by_cases o16:x.op=16
      · rw [if_pos o16] at hs;simp only [Option.some.injEq,Prod.mk.injEq] at hs;exact .inr (.inr (.inr (.inl ⟨o16,by rw [hl,← hs.1];rfl⟩)))
      rw [if_neg o16] at hs
      by_cases o18:x.op=18
      · rw [if_pos o18] at hs;simp only [Option.some.injEq,Prod.mk.injEq] at hs;exact .inr (.inr (.inr (.inr (.inl ⟨o18,by rw [hl,← hs.1];rfl⟩))))
      rw [if_neg o18] at hs
      by_cases o3:3≤x.op∧x.op≤11
      · rw [if_pos o3] at hs;simp only [Option.some.injEq,Prod.mk.injEq] at hs;rcases g2 with g2 | g2
        · omega
        · refine .inr (.inl ⟨by omega,by omega,?_,g2.2⟩);rw [hl,← hs.1];unfold opArity;rw [if_neg (by omega),if_pos (by omega)];rfl
      rw [if_neg o3] at hs;cases hs
theorem fun_ok {m:List FunD} {f:FunD} (h:funE m f=0):FunOk m f:=by
  obtain ⟨ho,hb⟩:=funE_zero.1 h;obtain ⟨h1,h2,h3,h4⟩:=outer_four ho;have h1:=of_decide_eq_true h1;unfold qd at h2;rw [Bool.and_eq_true,Bool.and_eq_true] at h2;have hpar:=of_decide_eq_true h2.1.2;have hty:∀ t∈f.regs,t=1∨t=2:=fun t ht=>of_decide_eq_true (List.all_eq_true.1 h2.1.1 t ht);have hsh:∀ b∈f.blocks,tosB b.term=true∧b.term.to.all (toB f.blocks.length)=true:=fun b hbm=>by
    have:=List.all_eq_true.1 h3 b hbm;unfold ql at this
    rwa [Bool.and_eq_true] at this
  refine ⟨⟨h1.1,h1.2.1⟩,h1.2.2.1,hpar,fun b hbm=>by have:=items_le hbm;omega,fun b hbm t ht=>?_,fun b hbm=>?_,fun i b hi p hp=>?_,fun b hbm x hx=>?_⟩
  · have:=of_decide_eq_true (List.all_eq_true.1 (hsh b hbm).2 t ht);omega
  · have ht:=(hsh b hbm).1;have he:=(blockE_zero.1 (hb b hbm)).2.2;unfold tosB at ht;unfold termE qp at he
    by_cases k1:b.term.kind=1
    · rw [if_pos k1] at ht;exact .inl ⟨k1,of_decide_eq_true ht⟩
    rw [if_neg k1] at ht
    by_cases k2:b.term.kind=2
    · rw [if_pos k2,Bool.and_eq_true] at ht;rw [if_pos k2,if_neg (show ¬ (2:Int)=0 by decide)] at he;exact .inr (.inl ⟨k2,of_decide_eq_true ht.1,(qa (by decide) he).1⟩)
    rw [if_neg k2] at ht
    by_cases k3:b.term.kind=3
    · rw [if_pos k3] at ht;rw [if_neg k2,if_pos k3] at he;refine .inr (.inr ⟨k3,of_decide_eq_true ht,?_⟩)
      split at he
      · exact .inl (qa (by decide) he).1
      · exact .inr (qa (by decide) he).1
    rw [if_neg k3] at ht;cases ht
  · have hm:=meetK_get h4 i b hi p hp;rw [Nat.zero_add] at hm;have hph:=(blockE_zero.1 (hb b (List.mem_of_getElem? hi))).1 p hp;unfold phiE at hph;have:=(qa (by decide) hph).1;rw [Bool.and_eq_true] at this;exact ⟨hm,of_decide_eq_true (p:=0≤p.dst∧p.dst<f.regs.length) this.1,are_in this.2⟩
  · exact ins_in hty ((blockE_zero.1 (hb b hbm)).2.1 x hx)
theorem proper_ok {m:List FunD} (h:Proper m):m.length≤32∧∀ f∈m,FunOk m f:=by
  obtain ⟨h1,h2⟩:=proper_iff.1 h;exact ⟨h1,fun f hf=>fun_ok (h2 f hf)⟩
def mkI (ins:List InsD) (i r:Nat):Bool:=(ins.take i).any fun x=>decide (x.dst=(r:Int))
def usA (ins:List InsD) (i:Nat) (args:List Int):List Nat:=(args.map Int.toNat).filter fun r=>!mkI ins i r
def usK (ins:List InsD):Nat→List Nat
  | 0=>[]
  | i+1=>usK ins i++(match ins[i]? with | some x=>usA ins i x.args | none=>[])
def usE (k:BlkD):List Nat:=if 0≤k.term.arg∧mkI k.ins k.ins.length k.term.arg.toNat=false then [k.term.arg.toNat] else []
def usB (k:BlkD):List Nat:=usK k.ins k.ins.length++usE k
def mkB (bs:List BlkD) (b r:Nat):Bool:=match bs[b]? with | some k=>mkI k.ins k.ins.length r | none=>false
def phI (ps:List PhiD) (i r:Nat):Bool:=(ps.take i).any fun p=>decide (p.dst=(r:Int))
def phB (bs:List BlkD) (b r:Nat):Bool:=match bs[b]? with | some k=>phI k.phis k.phis.length r | none=>false
theorem mkI_succ {ins:List InsD} {i:Nat} {x:InsD} (h:ins[i]?=some x) (r:Nat):mkI ins (i+1) r=(mkI ins i r || decide (x.dst=(r:Int))):=by
  unfold mkI;rw [qD h,List.any_append];simp
theorem mkB_at {bs:List BlkD} {b:Nat} {k:BlkD} (h:bs[b]?=some k) (r:Nat):mkB bs b r=mkI k.ins k.ins.length r:=by unfold mkB;rw [h]
theorem usK_succ {ins:List InsD} {i:Nat} {x:InsD} (h:ins[i]?=some x):usK ins (i+1)=usK ins i++usA ins i x.args:=by
  show usK ins i++_=_;rw [h]
structure LvS where
  A:Nat→Nat→Bool
  E:Nat→Nat→Bool
  op:List (Nat × Nat)
def setB (M:Nat→Nat→Bool) (b r:Nat):Nat→Nat→Bool:=fun x y=>if x=b∧y=r then true else M x y
theorem setB_here (M:Nat→Nat→Bool) (b r:Nat):setB M b r b r=true:=by unfold setB;rw [if_pos ⟨rfl,rfl⟩]
theorem setB_mono {M:Nat→Nat→Bool} {b r x y:Nat} (h:M x y=true):setB M b r x y=true:=by unfold setB;split;rfl;exact h
theorem setB_inv {M:Nat→Nat→Bool} {b r x y:Nat} (h:setB M b r x y=true):(x=b∧y=r)∨M x y=true:=by
  unfold setB at h;split at h
  · exact .inl ‹_›
  · exact .inr h
def atB (ph:Nat→Nat→Bool) (s:LvS) (b r:Nat):LvS:=if (s.A b r || ph b r)=true then s else ⟨setB s.A b r,s.E,s.op++[(b,r)]⟩
def atE (mk ph:Nat→Nat→Bool) (s:LvS) (b r:Nat):LvS :=
  if s.E b r=true then s else if mk b r=true then ⟨s.A,setB s.E b r,s.op⟩ else atB ph ⟨s.A,setB s.E b r,s.op⟩ b r
def prP (ah:List Int) (args:List Int):List (Nat × Nat):=(List.zip ah args).map fun x=>(x.1.toNat,x.2.toNat)
def AlongP (bs:List BlkD) (b t r:Nat):Prop:=∃ x,bs[t]?=some x∧∃ p∈x.phis,(b,r)∈prP (qG bs t) p.args
inductive Want (bs:List BlkD):Bool→Nat→Nat→Prop
  | use {b r:Nat} {x:BlkD}:bs[b]?=some x→r∈usB x→phB bs b r=false→Want bs false b r
  | thru {b r:Nat}:b<bs.length→Want bs true b r→mkB bs b r=false→phB bs b r=false→Want bs false b r
  | along {b t r:Nat}:AlongP bs b t r→Want bs true b r
  | back {b t r:Nat}:t<bs.length→(b:Int)∈qG bs t→Want bs false t r→Want bs true b r
structure InvS (bs:List BlkD) (s:LvS):Prop where
  sa:∀ b r,s.A b r=true→Want bs false b r
  se:∀ b r,s.E b r=true→Want bs true b r
  ce:∀ b r,s.E b r=true→mkB bs b r=false→s.A b r=true∨phB bs b r=true
  op:∀ x∈s.op,s.A x.1 x.2=true
structure Mor (s s':LvS):Prop where
  a:∀ b r,s.A b r=true→s'.A b r=true
  e:∀ b r,s.E b r=true→s'.E b r=true
  op:∃ l,s'.op=s.op++l∧∀ b r,s'.A b r=true→s.A b r=true∨(b,r)∈l
theorem Mor.refl (s:LvS):Mor s s:=⟨fun _ _ h=>h,fun _ _ h=>h,[],by simp,fun _ _ h=>.inl h⟩
theorem Mor.trans {s t u:LvS} (h:Mor s t) (k:Mor t u):Mor s u:=by
  obtain ⟨l,e,h1⟩:=h.op;obtain ⟨m,e2,h2⟩:=k.op;refine ⟨fun b r x=>k.a b r (h.a b r x),fun b r x=>k.e b r (h.e b r x),l++m,by rw [e2,e,List.append_assoc],fun b r x=>?_⟩;rcases h2 b r x with h3 | h3
  · rcases h1 b r h3 with h4 | h4
    · exact .inl h4
    · exact .inr (by simp [h4])
  · exact .inr (by simp [h3])
theorem atB_mor (ph:Nat→Nat→Bool) (s:LvS) (b r:Nat):Mor s (atB ph s b r):=by
  unfold atB
  split
  · exact .refl s
  · refine ⟨fun x y h=>setB_mono h,fun _ _ h=>h,[(b,r)],rfl,fun x y h=>?_⟩;rcases setB_inv h with ⟨rfl,rfl⟩ | h
    · exact .inr (by simp)
    · exact .inl h
theorem atB_has (ph:Nat→Nat→Bool) (s:LvS) (b r:Nat):(atB ph s b r).A b r=true∨ph b r=true:=by
  unfold atB
  by_cases h:(s.A b r || ph b r)=true
  · rw [if_pos h];rw [Bool.or_eq_true] at h;exact h
  · rw [if_neg h];exact .inl (setB_here _ _ _)
theorem atE_mor (mk ph:Nat→Nat→Bool) (s:LvS) (b r:Nat):Mor s (atE mk ph s b r):=by
  have h0:Mor s ⟨s.A,setB s.E b r,s.op⟩:=⟨fun _ _ h=>h,fun _ _ h=>setB_mono h,[],by simp,fun _ _ h=>.inl h⟩;unfold atE
  split
  · exact .refl s
  · split
    · exact h0
    · exact h0.trans (atB_mor ph _ b r)
theorem atE_has (mk ph:Nat→Nat→Bool) (s:LvS) (b r:Nat):(atE mk ph s b r).E b r=true:=by
  unfold atE
  by_cases h:s.E b r=true
  · rw [if_pos h];exact h
  · rw [if_neg h]
    split
    · exact setB_here _ _ _
    · exact (atB_mor ph _ b r).e b r (setB_here _ _ _)
theorem atB_E (ph:Nat→Nat→Bool) (s:LvS) (b r:Nat):(atB ph s b r).E=s.E:=by unfold atB;split <;> rfl
theorem InvS.atB {bs:List BlkD} {s:LvS} (h:InvS bs s) {b r:Nat} (hw:phB bs b r=false→Want bs false b r):InvS bs (atB (phB bs) s b r):=by
  unfold Go.Proofs.YtfoggldjjnabcaaGreatDoor.atB
  by_cases e:(s.A b r || phB bs b r)=true
  · rw [if_pos e];exact h
  · rw [if_neg e];rw [Bool.or_eq_true] at e;(have hp:phB bs b r=false:=by cases hp:phB bs b r;rfl;exact absurd (.inr hp) e);refine ⟨fun x y k=>?_,h.se,fun x y k hm=>?_,fun x hx=>?_⟩
    · rcases setB_inv k with ⟨rfl,rfl⟩ | k
      · exact hw hp
      · exact h.sa x y k
    · rcases h.ce x y k hm with k2 | k2
      · exact .inl (setB_mono k2)
      · exact .inr k2
    · rcases List.mem_append.1 hx with hx | hx
      · exact setB_mono (h.op x hx)
      · rw [List.mem_singleton.1 hx];exact setB_here _ _ _
theorem InvS.atE {bs:List BlkD} {s:LvS} (h:InvS bs s) {b r:Nat} (hb:b<bs.length) (hw:Want bs true b r):InvS bs (atE (mkB bs) (phB bs) s b r):=by
  unfold Go.Proofs.YtfoggldjjnabcaaGreatDoor.atE
  by_cases e:s.E b r=true
  · rw [if_pos e];exact h
  · rw [if_neg e]
    by_cases hm:mkB bs b r=true
    · rw [if_pos hm];refine ⟨h.sa,fun x y k=>?_,fun x y k hm2=>?_,h.op⟩
      · rcases setB_inv k with ⟨rfl,rfl⟩ | k
        · exact hw
        · exact h.se x y k
      · rcases setB_inv k with ⟨rfl,rfl⟩ | k
        · rw [hm] at hm2;cases hm2
        · exact h.ce x y k hm2
    · rw [if_neg hm];(have hmf:mkB bs b r=false:=by cases hq:mkB bs b r;rfl;exact absurd hq hm);have hhas:=atB_has (phB bs) ⟨s.A,setB s.E b r,s.op⟩ b r;have hmor:=atB_mor (phB bs) ⟨s.A,setB s.E b r,s.op⟩ b r;have hE:=atB_E (phB bs) ⟨s.A,setB s.E b r,s.op⟩ b r
      -- the state between holds all but the new end's own consequence
      refine ⟨fun x y k=>?_,fun x y k=>?_,fun x y k hm2=>?_,fun x hx=>?_⟩
      · unfold Go.Proofs.YtfoggldjjnabcaaGreatDoor.atB at k
        by_cases e2:(s.A b r || phB bs b r)=true
        · rw [if_pos e2] at k;exact h.sa x y k
        · rw [if_neg e2] at k;rw [Bool.or_eq_true] at e2;(have hp:phB bs b r=false:=by cases hp:phB bs b r;rfl;exact absurd (.inr hp) e2);rcases setB_inv k with ⟨rfl,rfl⟩ | k
          · exact .thru hb hw hmf hp
          · exact h.sa x y k
      · rw [hE] at k;rcases setB_inv k with ⟨rfl,rfl⟩ | k
        · exact hw
        · exact h.se x y k
      · rw [hE] at k;rcases setB_inv k with ⟨rfl,rfl⟩ | k
        · exact hhas
        · rcases h.ce x y k hm2 with k2 | k2
          · exact .inl (hmor.a x y k2)
          · exact .inr k2
      · obtain ⟨l,e3,-⟩:=hmor.op;unfold Go.Proofs.YtfoggldjjnabcaaGreatDoor.atB at hx ⊢
        by_cases e2:(s.A b r || phB bs b r)=true
        · rw [if_pos e2] at hx ⊢;exact h.op x hx
        · rw [if_neg e2] at hx ⊢;rcases List.mem_append.1 hx with hx | hx
          · exact setB_mono (h.op x hx)
          · rw [List.mem_singleton.1 hx];exact setB_here _ _ _
structure GotS (bs:List BlkD) (s:LvS):Prop where
  inv:InvS bs s
  use:∀ b r x,bs[b]?=some x→r∈usB x→s.A b r=true∨phB bs b r=true
  along:∀ b t r,AlongP bs b t r→s.E b r=true
theorem GotS.more {bs:List BlkD} {s s':LvS} (h:GotS bs s) (m:Mor s s') (i:InvS bs s'):GotS bs s' :=
  ⟨i,fun b r x h1 h2=>(h.use b r x h1 h2).imp (m.a b r) id,fun b t r h1=>m.e b r (h.along b t r h1)⟩
def ToldS (bs:List BlkD) (s:LvS):Prop:=∀ b r,s.A b r=true→(b,r)∈s.op∨∀ x∈qG bs b,s.E x.toNat r=true
theorem ToldS.more {bs:List BlkD} {s s':LvS} (h:ToldS bs s) (m:Mor s s'):ToldS bs s':=fun b r ha=>by
  obtain ⟨l,e,h1⟩:=m.op;rcases h1 b r ha with h2 | h2
  · rcases h b r h2 with h3 | h3
    · exact .inl (by rw [e];simp [h3])
    · exact .inr fun x hx=>m.e _ _ (h3 x hx)
  · exact .inl (by rw [e];simp [h2])
structure MidS (bs:List BlkD) (q:Nat × Nat) (j:Nat) (s:LvS):Prop where
  got:GotS bs s
  hq:s.A q.1 q.2=true
  told:∀ b r,s.A b r=true→(b,r)∈s.op∨((b,r)=q∧∀ i x,i<j→(qG bs b)[i]?=some x→s.E x.toNat r=true)∨∀ x∈qG bs b,s.E x.toNat r=true
theorem MidS.step {bs:List BlkD} {q:Nat × Nat} {j:Nat} {s:LvS} {x:Int} (h:MidS bs q j s) (hq:q.1<bs.length) (hx:(qG bs q.1)[j]?=some x):MidS bs q (j+1) (atE (mkB bs) (phB bs) s x.toNat q.2):=by
  have hm:=List.mem_of_getElem? hx;have h2:=aheadK_mem bs 0 q.1 x hm;(have hxn:x.toNat<bs.length:=by simp at h2;omega);(have hxe:((x.toNat:Nat):Int)=x:=by simp at h2;omega);have mor:=atE_mor (mkB bs) (phB bs) s x.toNat q.2;(have hw:Want bs true x.toNat q.2:=.back hq (by rw [hxe];exact hm) (h.got.inv.sa _ _ h.hq));refine ⟨h.got.more mor (h.got.inv.atE hxn hw),mor.a _ _ h.hq,fun b r ha=>?_⟩;obtain ⟨l,e,h1⟩:=mor.op;rcases h1 b r ha with h3 | h3
  · rcases h.told b r h3 with h4 | ⟨h4,h5⟩ | h4
    · exact .inl (by rw [e];simp [h4])
    · refine .inr (.inl ⟨h4,fun i y hi hy=>?_⟩)
      by_cases ei:i=j
      · subst ei;(have e1:b=q.1:=by rw [← h4]);(have e2:r=q.2:=by rw [← h4]);subst e1 e2;(rw [hx] at hy;cases hy);exact atE_has _ _ _ _ _
      · exact mor.e _ _ (h5 i y (by omega) hy)
    · exact .inr (.inr fun y hy=>mor.e _ _ (h4 y hy))
  · exact .inl (by rw [e];simp [h3])
theorem MidS.done {bs:List BlkD} {q:Nat × Nat} {j:Nat} {s:LvS} (h:MidS bs q j s) (hj:(qG bs q.1).length≤j):GotS bs s∧ToldS bs s:=by
  refine ⟨h.got,fun b r ha=>?_⟩;rcases h.told b r ha with h4 | ⟨h4,h5⟩ | h4
  · exact .inl h4
  · refine .inr fun x hx=>?_;obtain ⟨i,hi⟩:=List.mem_iff_getElem?.1 hx;(have e1:b=q.1:=by rw [← h4]);refine h5 i x ?_ hi;have:=(List.getElem?_eq_some_iff.1 hi).1;rw [e1] at this;omega
  · exact .inr h4
end Go.Proofs.YtfoggldjjnabcaaGreatDoor

namespace Go.Proofs.YtfoggldjjnabcaaGreatDoor
set_option linter.unusedVariables false
theorem getD_of {α:Type} [Inhabited α] {l:List α} {k:Nat} {x:α} (h:l[k]?=some x):l.getD k default=x:=by rw [List.getD_eq_getElem?_getD,h];rfl
end Go.Proofs.YtfoggldjjnabcaaGreatDoor

namespace Go.Proofs.YtfoggldjjnabcaaGreatDoor
open Go.RowKit
set_option linter.unusedVariables false
def lvP (R:Nat):List InsD→Prop→Prop
  | [],E=>E
  | x::l,E=>(R:Int)∈x.args∨(x.dst≠(R:Int)∧lvP R l E)
def wantAt (f:FunD) (R b a:Nat):Prop:=lvP R ((blkAt f b).ins.drop a) ((blkAt f b).term.arg=(R:Int)∨Want f.blocks true b R)
theorem wantAt_step {f:FunD} {R b a:Nat} {kb:BlkD} {x:InsD} (hb:f.blocks[b]?=some kb) (hx:kb.ins[a]?=some x):wantAt f R b a↔(R:Int)∈x.args∨(x.dst≠(R:Int)∧wantAt f R b (a+1)):=by
  have e:blkAt f b=kb:=getD_of hb;have hl:=(List.getElem?_eq_some_iff.1 hx).1;unfold wantAt;rw [e,List.drop_eq_getElem_cons hl,(List.getElem?_eq_some_iff.1 hx).2]
  rfl
theorem wantAt_end {f:FunD} {R b:Nat} {kb:BlkD} (hb:f.blocks[b]?=some kb):wantAt f R b kb.ins.length↔kb.term.arg=(R:Int)∨Want f.blocks true b R:=by
  have e:blkAt f b=kb:=getD_of hb;unfold wantAt;rw [e,List.drop_length]
  rfl
theorem usK_mono {ins:List InsD} {i j r:Nat} (h:i≤j) (hr:r∈usK ins i):r∈usK ins j:=by
  induction j with
  | zero =>
    (obtain rfl:i=0:=by omega);exact hr
  | succ j ih =>
    by_cases e:i=j+1
    · subst e;exact hr
    · show r∈usK ins j++_;exact List.mem_append_left _ (ih (by omega))
theorem lv_uses {k:BlkD} {R:Nat} {W:Prop}:∀ (n i:Nat),i+n=k.ins.length→mkI k.ins i R=false→lvP R (k.ins.drop i) (k.term.arg=(R:Int)∨W)→R∈usB k∨(mkI k.ins k.ins.length R=false∧W):=by
  intro n
  induction n with
  | zero =>
    intro i hi hm h;(obtain rfl:i=k.ins.length:=by omega);rw [List.drop_length] at h;have h:k.term.arg=(R:Int)∨W:=h;rcases h with h | h
    · left;unfold usB usE;refine List.mem_append_right _ ?_;(have e:k.term.arg.toNat=R:=by omega);(rw [if_pos ⟨by omega,by rw [e];exact hm⟩,e]);simp
    · exact .inr ⟨hm,h⟩
  | succ n ih =>
    intro i hi hm h;(have hl:i<k.ins.length:=by omega);have hx:k.ins[i]?=some k.ins[i]:=List.getElem?_eq_getElem hl;rw [List.drop_eq_getElem_cons hl] at h;generalize k.ins[i]=x at hx h;have h:(R:Int)∈x.args∨(x.dst≠(R:Int)∧lvP R (k.ins.drop (i+1)) (k.term.arg=(R:Int)∨W)):=h;rcases h with h | ⟨hd,h⟩
    · left;unfold usB;refine List.mem_append_left _ (usK_mono (show i+1≤k.ins.length by omega) ?_);rw [usK_succ hx];refine List.mem_append_right _ ?_;unfold usA;exact List.mem_filter.2 ⟨List.mem_map.2 ⟨_,h,by simp⟩,by rw [hm];rfl⟩
    · exact ih (i+1) (by omega) (by rw [mkI_succ hx,hm,decide_eq_false hd];rfl) h
theorem want_first {f:FunD} {R t:Nat} {kt:BlkD} (ht:f.blocks[t]?=some kt) (hp:phB f.blocks t R=false) (h:wantAt f R t 0):Want f.blocks false t R:=by
  have e:blkAt f t=kt:=getD_of ht;unfold wantAt at h;rw [e] at h;rcases lv_uses (k:=kt) (R:=R) kt.ins.length 0 (by omega) (by simp [mkI]) h with h | ⟨h1,h2⟩
  · exact .use ht h hp
  · exact .thru (List.getElem?_eq_some_iff.1 ht).1 h2 (by rw [mkB_at ht];exact h1) hp
end Go.Proofs.YtfoggldjjnabcaaGreatDoor

namespace Go.Proofs.YtfoggldjjnabcaaGreatDoor
set_option linter.unusedVariables false
structure DomA (n:Nat) (E D:Nat→Nat→Prop) (near ord:Nat→Nat):Prop where
  dlt:∀ a b,D a b→a<n∧b<n
  self:∀ b,b<n→D b b
  trans:∀ a b c,D a b→D b c→D a c
  anti:∀ a b,D a b→D b a→a=b
  first:∀ b,b<n→D 0 b
  near_:∀ b,b<n→b≠0→D (near b) b∧near b≠b
  least:∀ a b,b<n→b≠0→D a b→a≠b→D a (near b)
  ord_:∀ b,b<n→b≠0→ord (near b)<ord b
  way:∀ b,b<n→b≠0→∃ p,E p b∧ord p<ord b
  edge:∀ p b,E p b→p<n∧b<n∧b≠0
  pred:∀ a p b,E p b→D a b→a≠b→D a p
def FrA (E D:Nat→Nat→Prop) (x b:Nat):Prop:=¬ (D x b∧x≠b)∧∃ p,E p b∧D x p
inductive ClA (E D:Nat→Nat→Prop) (mk:Nat→Prop):Nat→Prop
  | of {x b:Nat}:mk x→FrA E D x b→ClA E D mk b
  | more {x b:Nat}:ClA E D mk x→FrA E D x b→ClA E D mk b
variable {n:Nat} {E D:Nat→Nat→Prop} {near ord:Nat→Nat} {mk:Nat→Prop}
theorem DomA.down (h:DomA n E D near ord) {p b:Nat} (he:E p b):D (near b) p:=by
  obtain ⟨hp,hb,h0⟩:=h.edge p b he;exact h.pred _ _ _ he (h.near_ b hb h0).1 (h.near_ b hb h0).2
theorem DomA.up (h:DomA n E D near ord) {a b:Nat} (hd:D a b):a=b∨(b≠0∧D a (near b)):=by
  by_cases e:a=b
  · exact .inl e
  · obtain ⟨ha,hb⟩:=h.dlt a b hd;(have h0:b≠0:=fun e0=>e (h.anti a b hd (by rw [e0];exact h.first a ha)));exact .inr ⟨h0,h.least a b hb h0 hd e⟩
theorem DomA.quiet (h:DomA n E D near ord) {b p e:Nat} (hn:¬ ClA E D mk b) (he:E p b) (h1:D (near b) e) (h2:D e p) (hne:e≠near b):e≠0∧¬ mk e∧¬ ClA E D mk e:=by
  obtain ⟨hp,hb,h0⟩:=h.edge p b he;have hf:FrA E D e b:=⟨fun ⟨g1,g2⟩=>hne (h.anti _ _ (h.least e b hb h0 g1 g2) h1),p,he,h2⟩;refine ⟨fun e0=>?_,fun g=>hn (.of g hf),fun g=>hn (.more g hf)⟩;have:=h.dlt _ _ h1;exact hne (h.anti _ _ (by rw [e0];exact h.first _ this.1) h1)
theorem DomA.same (h:DomA n E D near ord) {α:Type} {ver:Nat→α} (hv:∀ e,e<n→e≠0→¬ mk e→¬ ClA E D mk e→ver e=ver (near e))
    {b p:Nat} (hn:¬ ClA E D mk b) (he:E p b):∀ (k e:Nat),ord e≤k→D (near b) e→D e p→ver e=ver (near b):=by
  intro k
  induction k with
  | zero =>
    intro e ho h1 h2
    by_cases hne:e=near b
    · rw [hne]
    · obtain ⟨q0,q1,q2⟩:=h.quiet hn he h1 h2 hne;have:=h.ord_ e (h.dlt _ _ h1).2 q0;omega
  | succ k ih =>
    intro e ho h1 h2
    by_cases hne:e=near b
    · rw [hne]
    · obtain ⟨q0,q1,q2⟩:=h.quiet hn he h1 h2 hne;have hl:=(h.dlt _ _ h1).2;have:=h.ord_ e hl q0;rw [hv e hl q0 q1 q2];exact ih (near e) (by omega) (h.least _ _ hl q0 h1 (fun g=>hne g.symm)) (h.trans _ _ _ (h.near_ e hl q0).1 h2)
theorem DomA.same_pred (h:DomA n E D near ord) {α:Type} {ver:Nat→α} (hv:∀ e,e<n→e≠0→¬ mk e→¬ ClA E D mk e→ver e=ver (near e))
    {b p:Nat} (hn:¬ ClA E D mk b) (he:E p b):ver p=ver (near b) :=
  h.same hv hn he (ord p) p (Nat.le_refl _) (h.down he) (h.self p (h.edge p b he).1)
theorem DomA.wanted (h:DomA n E D near ord) {wb we:Nat→Prop} (h1:∀ p b,E p b→wb b→we p) (h2:∀ b,b<n→we b→¬ mk b→wb b) :
    ∀ (k b:Nat),ord b≤k→b<n→b≠0→wb b→¬ ClA E D mk b→we (near b):=by
  intro k
  induction k with
  | zero =>
    intro b ho hb h0 hw hn;have:=h.ord_ b hb h0;omega
  | succ k ih =>
    intro b ho hb h0 hw hn;obtain ⟨p,he,hop⟩:=h.way b hb h0;have hin:∀ (j e:Nat),ord e≤j→ord e≤k→D (near b) e→D e p→we e→we (near b):=by
      intro j
      induction j with
      | zero =>
        intro e hj hk g1 g2 g3
        by_cases hne:e=near b
        · rw [← hne];exact g3
        · obtain ⟨q0,q1,q2⟩:=h.quiet hn he g1 g2 hne;have:=h.ord_ e (h.dlt _ _ g1).2 q0;omega
      | succ j jh =>
        intro e hj hk g1 g2 g3
        by_cases hne:e=near b
        · rw [← hne];exact g3
        · obtain ⟨q0,q1,q2⟩:=h.quiet hn he g1 g2 hne;have hl:=(h.dlt _ _ g1).2;have ho2:=h.ord_ e hl q0;have hwe:=ih e hk hl q0 (h2 e hl g3 q1) q2;exact jh (near e) (by omega) (by omega) (h.least _ _ hl q0 g1 (fun g=>hne g.symm)) (h.trans _ _ _ (h.near_ e hl q0).1 g2) hwe
    exact hin (ord p) p (Nat.le_refl _) (by omega) (h.down he) (h.self p (h.edge p b he).1) (h1 p b he hw)
end Go.Proofs.YtfoggldjjnabcaaGreatDoor
