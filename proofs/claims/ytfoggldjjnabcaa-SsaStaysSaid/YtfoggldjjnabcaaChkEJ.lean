/- fits, and ofInstr: it does what the document says. -/
import Derived.Test.YtfoggldjjnabcaaInsCJ
import Derived.Test.YtfoggldjjnabcaaAheadJ
import Derived.Test.YtfoggldjjnabcaaInsAJ
import Derived.StillTailTactics
namespace Go.Proofs.Ytfoggldjjnabcaa
open Go.ChangeShapes Go.WideShapes Go.RowKit Go.Deep
set_option linter.unusedVariables false
theorem boxes3 (w:World) (A B C:Obj):∃ w4,w4=((w.alloc A).alloc B).alloc C∧w.heap.size+1+1<w4.heap.size∧Below w.heap.size w w4 ∧
    w4.heap[w.heap.size]?=some A∧w4.heap[w.heap.size+1]?=some B∧w4.heap[w.heap.size+1+1]?=some C:=by
  refine ⟨_,rfl,by simp,(((Below.refl _ w).alloc (Nat.le_refl _) _).alloc (by simp) _).alloc (by simp;omega) _,?_,?_,?_⟩
  · show (((w.heap.push A).push B).push C)[w.heap.size]?=some A;rw [Array.getElem?_push,if_neg (by simp;omega),Array.getElem?_push,if_neg (by simp),Array.getElem?_push,if_pos rfl]
  · show (((w.heap.push A).push B).push C)[w.heap.size+1]?=some B;rw [Array.getElem?_push,if_neg (by simp),Array.getElem?_push,if_pos (by simp)]
  · show (((w.heap.push A).push B).push C)[w.heap.size+1+1]?=some C;rw [Array.getElem?_push,if_pos (by simp)]
theorem typesB_iff {regs:List Int}:∀ {l ts:List Int},qw regs l ts=true↔∀ (j:Nat) (a t:Int),l[j]?=some a→ts[j]?=some t→reg regs a=t:=by
  intro l
  induction l with
  | nil=>intro ts;simp [qw]
  | cons a l ih =>
    intro ts;cases ts with
    | nil=>simp [qw]
    | cons t ts =>
      simp only [qw,Bool.and_eq_true,decide_eq_true_eq,ih];constructor
      · rintro ⟨h1,h2⟩ j b s hb hs;cases j with
        | zero=>simp at hb hs;rw [← hb,← hs];exact h1
        | succ j=>exact h2 j b s (by simpa using hb) (by simpa using hs)
      · intro h;exact ⟨h 0 a t rfl rfl,fun j b s hb hs=>h (j+1) b s (by simpa using hb) (by simpa using hs)⟩
def dstB (f:FunD) (x:InsD) (d:Int):Bool:=if d=0 then decide (x.dst=-1) else decide (reg f.regs x.dst=d)
def restB (x:InsD):Bool:=(decide (x.op=1) || decide (x.imm=0)) && (decide (x.op=17) || decide (x.fn=0))
def fitsB (f:FunD) (x:InsD) (many:Int) (ts:List Int) (d:Int):Bool:=decide ((ts.length:Int)=many) && (qw f.regs x.args ts && (dstB f x d && restB x))
set_option maxRecDepth 100000 in
set_option maxHeartbeats 4000000 in
theorem fits_any (f:FunD) (x:InsD) (many:Int) (ts:List Int) (d:Int) (vf vx vA:Value) (w:World) (hf:VFun w vf f) (hx:VIns w vx x) (hA:VAsk w vA many ts d)
    (hat:areAtB x.args f.regs.length=true) (hn:(x.args.length:Int)=many) (hd:d=0∨isAtB x.dst f.regs.length=true) :
    Calls Try.prog 82 #[vf,vx,vA] w fun e w'=>e=.returned (.bool (fitsB f x many ts d))∧Below w.heap.size w w':=by
  obtain ⟨Ar,cr,Ab,cb,rfl,hr,hbs,hp64,hr64⟩:=hf;obtain ⟨A,c,rfl,hxa,ho64,hd64,hi64,hf64⟩:=hx;obtain ⟨At,ct,rfl,hts,hm64,hdd64⟩:=hA;obtain ⟨op,dst,args,imm,fn⟩:=x;dsimp only at *;have hrl:=hr.len;have hal:=hxa.len;have htl:=hts.len
  by_cases hm:(ts.length:Int)=many
  · (have hmb:((ts.length:Int) != many)=false:=by simp [hm]);have hlen:args.length=ts.length:=by omega
    have HF:Hid (fitsB f ⟨op,dst,args,imm,fn⟩ many ts d=(qw f.regs args ts && (dstB f ⟨op,dst,args,imm,fn⟩ d && restB ⟨op,dst,args,imm,fn⟩))):=Lib.hid (by
      unfold fitsB;rw [decide_eq_true hm,Bool.true_and])
    have HL:=Lib.hid hlen;have HAT:=Lib.hid hat;clear hm hn hlen hat;(go_enter Try.func82,Try.ntmps82);(go_wp2_with fail);obtain ⟨w3,hw3,hs3,hb3,hF3,hX3,hW3⟩:=boxes3 w (.cells #[.int .i64 f.params,.int .i64 f.result,.slice Ar f.regs.length cr,.slice Ab f.blocks.length cb] 31) (.cells #[.int .i64 op,.int .i64 dst,.slice A args.length c,.int .i64 imm,.int .i64 fn] 45) (.cells #[.int .i64 many,.slice At ts.length ct,.int .i64 d] 128);rw [← hw3];clear hw3;have u2:=(q9 hF3 2).trans rfl
    have x0:=(q9 hX3 0).trans rfl;have x1:=(q9 hX3 1).trans rfl;have x2:=(q9 hX3 2).trans rfl;have x3:=(q9 hX3 3).trans rfl;have x4:=(q9 hX3 4).trans rfl;have y0:=(q9 hW3 0).trans rfl;have y1:=(q9 hW3 1).trans rfl;have y2:=(q9 hW3 2).trans rfl;have hk3:=q6 hb3
    have hxa3:=SInts.keep hk3 hxa;have hr3:=SInts.keep hk3 hr;have hts3:=SInts.keep hk3 hts;clear hF3 hX3 hW3
    go_loopw [18] (fun i wr=>∃ k q:Nat,k≤args.length∧i=.int .i64 k∧Hid (∀ (j:Nat) (a t:Int),j<k→args[j]?=some a→ts[j]?=some t→reg f.regs a=t)∧wr=w3.drewN q) (fun i _=>args.length - (intOf i).toNat)
    case atStart=>exact ⟨0,0,Nat.zero_le _,rfl,Lib.hid (fun j a t h=>absurd h (Nat.not_lt_zero j)),rfl⟩
    case round =>
      obtain ⟨k,q,hk,rfl,hi,rfl⟩:=hrel
      by_cases hlt:k<args.length
      · obtain ⟨b,o,a,rfl,ha,hac,-⟩:=hxa3.int hlt;(obtain ⟨b2,o2,t,rfl,ht,htc,-⟩:=hts3.int (k:=k) (by rw [← HL.out];exact hlt));(have hkt:k<ts.length:=by rw [← HL.out];exact hlt);obtain ⟨ha0,ha1⟩:=areAtB_at HAT.out ha.out;obtain ⟨an,rfl,han⟩:=reg_at ha0 ha1;obtain ⟨br,or_,z,rfl,hz,hzc,-⟩:=hr3.int han;have HZ:Hid (reg f.regs an=z):=Lib.hid (reg_of rfl hz.out)
        by_cases hzt:z=t
        · (have hzb:(z != t)=false:=by simp [hzt]);have HZT:=Lib.hid hzt;clear hzt;(go_wp2_with fail);(go_quiet (fail));go_wp2_with fail
          go_roundw
          case rel=>exact ⟨k+1,_,by omega,by go_num,Lib.hid (fun j a' t' hj ha' ht'=>by
            by_cases e:j=k
            · subst e;have e1:=Option.some.inj (ha'.symm.trans ha.out);have e2:=Option.some.inj (ht'.symm.trans ht.out);rw [e1,e2,HZ.out,HZT.out]
            · exact hi.out j a' t' (by omega) ha' ht'),rfl⟩
          case measure=>simp [intOf];omega
        · have hzb:(z != t)=true:=by simp [hzt]
          have HE:Hid (fitsB f ⟨op,dst,args,imm,fn⟩ many ts d=false):=Lib.hid (by
            rw [HF.out];have:qw f.regs args ts=false:=by
              cases e:qw f.regs args ts
              · rfl
              · exact absurd (HZ.out.symm.trans (typesB_iff.1 e k _ _ ha.out ht.out)) hzt
            rw [this];rfl)
          clear hzt;(go_wp2_with fail);(go_quiet (fail));(go_wp2_with fail);(go_ret);exact ⟨by rw [HE.out];rfl,below_drewN (below_drewN hb3 _) _⟩
      · have HT:Hid (fitsB f ⟨op,dst,args,imm,fn⟩ many ts d=(dstB f ⟨op,dst,args,imm,fn⟩ d && restB ⟨op,dst,args,imm,fn⟩)):=Lib.hid (by
          rw [HF.out];have:qw f.regs args ts=true:=typesB_iff.2 fun j a' t' ha' ht'=>hi.out j a' t' (by have:=(List.getElem?_eq_some_iff.1 ha').1;omega) ha' ht'
          rw [this,Bool.true_and])
        clear hi HF
        by_cases hd0:d=0
        · have hdb:(d == 0)=true:=by simp [hd0]
          by_cases hdst:dst=-1
          · have hdsb:(dst != -1)=false:=by simp [hdst]
            have HB:Hid (fitsB f ⟨op,dst,args,imm,fn⟩ many ts d=restB ⟨op,dst,args,imm,fn⟩):=Lib.hid (by
              rw [HT.out];unfold dstB;rw [if_pos hd0,decide_eq_true hdst,Bool.true_and])
            clear hd0 hdst hd
            by_cases hi0:imm=0
            · have hib:(imm != 0)=false:=by simp [hi0]
              by_cases hf0:fn=0
              · (have hfb:(fn == 0)=true:=by simp [hf0]);(have HR:Hid (restB ⟨op,dst,args,imm,fn⟩=true):=Lib.hid (by unfold restB;simp [hi0,hf0]));clear hi0 hf0;(go_wp2_with fail);(go_ret);exact ⟨by rw [HB.out,HR.out];rfl,below_drewN hb3 _⟩
              · have hfb:(fn == 0)=false:=by simp [hf0]
                by_cases ho:op=17
                · (have hob:(op == 17)=true:=by simp [ho]);(have HR:Hid (restB ⟨op,dst,args,imm,fn⟩=true):=Lib.hid (by unfold restB;simp [hi0,ho]));clear hi0 hf0 ho;(go_wp2_with fail);(go_ret);exact ⟨by rw [HB.out,HR.out];rfl,below_drewN hb3 _⟩
                · (have hob:(op == 17)=false:=by simp [ho]);(have HR:Hid (restB ⟨op,dst,args,imm,fn⟩=false):=Lib.hid (by unfold restB;simp [hf0,ho]));clear hi0 hf0 ho;(go_wp2_with fail);(go_ret);exact ⟨by rw [HB.out,HR.out];rfl,below_drewN hb3 _⟩
            · have hib:(imm != 0)=true:=by simp [hi0]
              by_cases ho1:op=1
              · (have hob1:(op != 1)=false:=by simp [ho1]);have hob:(op == 17)=false:=by simp [ho1]
                by_cases hf0:fn=0
                · (have hfb:(fn == 0)=true:=by simp [hf0]);(have HR:Hid (restB ⟨op,dst,args,imm,fn⟩=true):=Lib.hid (by unfold restB;simp [ho1,hf0]));clear hi0 ho1 hf0;(go_wp2_with fail);(go_ret);exact ⟨by rw [HB.out,HR.out];rfl,below_drewN hb3 _⟩
                · (have hfb:(fn == 0)=false:=by simp [hf0]);(have HR:Hid (restB ⟨op,dst,args,imm,fn⟩=false):=Lib.hid (by unfold restB;simp [ho1,hf0]));clear hi0 ho1 hf0;(go_wp2_with fail);(go_ret);exact ⟨by rw [HB.out,HR.out];rfl,below_drewN hb3 _⟩
              · (have hob1:(op != 1)=true:=by simp [ho1]);(have HR:Hid (restB ⟨op,dst,args,imm,fn⟩=false):=Lib.hid (by unfold restB;simp [ho1,hi0]));clear hi0 ho1;(go_wp2_with fail);(go_ret);exact ⟨by rw [HB.out,HR.out];rfl,below_drewN hb3 _⟩
          · have hdsb:(dst != -1)=true:=by simp [hdst]
            have HE:Hid (fitsB f ⟨op,dst,args,imm,fn⟩ many ts d=false):=Lib.hid (by
              rw [HT.out];unfold dstB;rw [if_pos hd0,decide_eq_false hdst,Bool.false_and])
            clear hd0 hdst hd;(go_wp2_with fail);(go_ret);exact ⟨by rw [HE.out];rfl,below_drewN hb3 _⟩
        · (have hdb:(d == 0)=false:=by simp [hd0]);have hin:0≤dst∧dst<f.regs.length:=of_decide_eq_true (hd.resolve_left hd0);obtain ⟨dn,rfl,hdn⟩:=reg_at hin.1 hin.2;obtain ⟨br,or_,z,rfl,hz,hzc,-⟩:=hr3.int hdn;have HZ:Hid (reg f.regs dn=z):=Lib.hid (reg_of rfl hz.out);have hin1:=hin.1;have hin2:=hin.2;clear hin hd
          by_cases hzd:z=d
          · have hzb:(z != d)=false:=by simp [hzd]
            have HB:Hid (fitsB f ⟨op,dn,args,imm,fn⟩ many ts d=restB ⟨op,dn,args,imm,fn⟩):=Lib.hid (by
              rw [HT.out];unfold dstB;rw [if_neg hd0,HZ.out,decide_eq_true hzd,Bool.true_and])
            clear hd0 hzd;(go_wp2_with fail);go_quiet (fail)
            by_cases hi0:imm=0
            · have hib:(imm != 0)=false:=by simp [hi0]
              by_cases hf0:fn=0
              · (have hfb:(fn == 0)=true:=by simp [hf0]);(have HR:Hid (restB ⟨op,dn,args,imm,fn⟩=true):=Lib.hid (by unfold restB;simp [hi0,hf0]));clear hi0 hf0;(go_wp2_with fail);(go_ret);exact ⟨by rw [HB.out,HR.out];rfl,below_drewN hb3 _⟩
              · have hfb:(fn == 0)=false:=by simp [hf0]
                by_cases ho:op=17
                · (have hob:(op == 17)=true:=by simp [ho]);(have HR:Hid (restB ⟨op,dn,args,imm,fn⟩=true):=Lib.hid (by unfold restB;simp [hi0,ho]));clear hi0 hf0 ho;(go_wp2_with fail);(go_ret);exact ⟨by rw [HB.out,HR.out];rfl,below_drewN hb3 _⟩
                · (have hob:(op == 17)=false:=by simp [ho]);(have HR:Hid (restB ⟨op,dn,args,imm,fn⟩=false):=Lib.hid (by unfold restB;simp [hf0,ho]));clear hi0 hf0 ho;(go_wp2_with fail);(go_ret);exact ⟨by rw [HB.out,HR.out];rfl,below_drewN hb3 _⟩
            · have hib:(imm != 0)=true:=by simp [hi0]
              by_cases ho1:op=1
              · (have hob1:(op != 1)=false:=by simp [ho1]);have hob:(op == 17)=false:=by simp [ho1]
                by_cases hf0:fn=0
                · (have hfb:(fn == 0)=true:=by simp [hf0]);(have HR:Hid (restB ⟨op,dn,args,imm,fn⟩=true):=Lib.hid (by unfold restB;simp [ho1,hf0]));clear hi0 ho1 hf0;(go_wp2_with fail);(go_ret);exact ⟨by rw [HB.out,HR.out];rfl,below_drewN hb3 _⟩
                · (have hfb:(fn == 0)=false:=by simp [hf0]);(have HR:Hid (restB ⟨op,dn,args,imm,fn⟩=false):=Lib.hid (by unfold restB;simp [ho1,hf0]));clear hi0 ho1 hf0;(go_wp2_with fail);(go_ret);exact ⟨by rw [HB.out,HR.out];rfl,below_drewN hb3 _⟩
              · (have hob1:(op != 1)=true:=by simp [ho1]);(have HR:Hid (restB ⟨op,dn,args,imm,fn⟩=false):=Lib.hid (by unfold restB;simp [ho1,hi0]));clear hi0 ho1;(go_wp2_with fail);(go_ret);exact ⟨by rw [HB.out,HR.out];rfl,below_drewN hb3 _⟩
          · have hzb:(z != d)=true:=by simp [hzd]
            have HE:Hid (fitsB f ⟨op,dn,args,imm,fn⟩ many ts d=false):=Lib.hid (by
              rw [HT.out];unfold dstB;rw [if_neg hd0,HZ.out,decide_eq_false hzd,Bool.false_and])
            clear hd0 hzd;(go_wp2_with fail);(go_quiet (fail));(go_wp2_with fail);(go_ret);exact ⟨by rw [HE.out];rfl,below_drewN (below_drewN hb3 _) _⟩
  · (have hmb:((ts.length:Int) != many)=true:=by simp [hm]);(have HE:Hid (fitsB f ⟨op,dst,args,imm,fn⟩ many ts d=false):=Lib.hid (by unfold fitsB;rw [decide_eq_false hm,Bool.false_and]));clear hm hn;(go_enter Try.func82,Try.ntmps82);(go_wp2_with fail);obtain ⟨w3,hw3,hs3,hb3,hF3,hX3,hW3⟩:=boxes3 w (.cells #[.int .i64 f.params,.int .i64 f.result,.slice Ar f.regs.length cr,.slice Ab f.blocks.length cb] 31) (.cells #[.int .i64 op,.int .i64 dst,.slice A args.length c,.int .i64 imm,.int .i64 fn] 45) (.cells #[.int .i64 many,.slice At ts.length ct,.int .i64 d] 128);rw [← hw3];clear hw3;have u2:=(q9 hF3 2).trans rfl
    have x0:=(q9 hX3 0).trans rfl;have x1:=(q9 hX3 1).trans rfl;have x2:=(q9 hX3 2).trans rfl;have x3:=(q9 hX3 3).trans rfl;have x4:=(q9 hX3 4).trans rfl;have y0:=(q9 hW3 0).trans rfl;have y1:=(q9 hW3 1).trans rfl;have y2:=(q9 hW3 2).trans rfl;have hk3:=q6 hb3
    have hxa3:=SInts.keep hk3 hxa;have hr3:=SInts.keep hk3 hr;have hts3:=SInts.keep hk3 hts;clear hF3 hX3 hW3;(go_ret);exact ⟨by rw [HE.out];rfl,hb3⟩
def ownE (m:List FunD) (f:FunD) (x:InsD):Int :=
  if askE m x=0 then
    (if (x.args.length:Int)=askN m x then
      (if areAtB x.args f.regs.length=true then
        (if askD m f x=0∨isAtB x.dst f.regs.length=true then
          (if fitsB f x (askN m x) (askT m f x) (askD m f x)=true then 0 else 3)
        else 4)
      else 4)
    else 6)
  else askE m x
set_option maxRecDepth 100000 in
set_option maxHeartbeats 4000000 in
theorem ofInstr_own (m:List FunD) (f:FunD) (x:InsD) (vm vf vx:Value) (w:World) (hm:VMod w vm m) (hf:VFun w vf f) (hx:VIns w vx x) :
    Calls Try.prog 76 #[vm,vf,vx] w fun e w'=>e=.returned (errV (ownE m f x))∧Below w.heap.size w w':=by
  have hm0:=hm;have hf0:=hf;have hx0:=hx;obtain ⟨Am,cm,rfl,hms⟩:=hm;obtain ⟨Ar,cr,Ab,cb,rfl,hr,hbs,hp64,hr64⟩:=hf;obtain ⟨A,c,rfl,hxa,ho64,hd64,hi64,hf64⟩:=hx;have hrl:=hr.len;have hal:=hxa.len
  by_cases hE:askE m x=0
  · have HE:=Lib.hid hE;(go_enter Try.func76,Try.ntmps76);(go_wp2_with fail);obtain ⟨w3,hw3,hs3,hb3,hM3,hF3,hX3⟩:=boxes3 w (.cells #[.slice Am m.length cm] 24) (.cells #[.int .i64 f.params,.int .i64 f.result,.slice Ar f.regs.length cr,.slice Ab f.blocks.length cb] 31) (.cells #[.int .i64 x.op,.int .i64 x.dst,.slice A x.args.length c,.int .i64 x.imm,.int .i64 x.fn] 45);rw [← hw3];clear hw3;have hk3:=q6 hb3;refine (askedOf_any m f x _ _ _ w3 (VMod.keep hk3 hm0) (VFun.keep hk3 hf0) (VIns.keep hk3 hx0)).mono ?_;rintro e w4 ⟨⟨a1,A1,n1,c1,d1,rfl,hv⟩,hb4⟩
    obtain ⟨A2,c2,he2,hts,hm64,hdd64⟩:=hv hE;clear hE hv;rw [HE.out,errV_zero,he2];clear he2;have HT:=Lib.hid (rfl:askT m f x=askT m f x);(have HOWN:Hid (ownE m f x=if (x.args.length:Int)=askN m x then (if areAtB x.args f.regs.length=true then (if askD m f x=0∨isAtB x.dst f.regs.length=true then (if fitsB f x (askN m x) (askT m f x) (askD m f x)=true then 0 else 3) else 4) else 4) else 6):=Lib.hid (by unfold ownE;rw [if_pos HE.out]));generalize askN m x=nn at *;generalize askT m f x=tt at *;generalize askD m f x=dd at *
    have hB4:Below w.heap.size w w4:=hb3.trans (hb4.mono hb3.size);have hF4:=(hb4.block _ (qW hF3)).trans hF3;have hX4:=(hb4.block _ (qW hX3)).trans hX3;clear hF3 hX3 hM3;have u0:=(q9 hF4 0).trans rfl;have u1:=(q9 hF4 1).trans rfl;have u2:=(q9 hF4 2).trans rfl;have u3:=(q9 hF4 3).trans rfl;have x0:=(q9 hX4 0).trans rfl
    have x1:=(q9 hX4 1).trans rfl;have x2:=(q9 hX4 2).trans rfl;have x3:=(q9 hX4 3).trans rfl;have x4:=(q9 hX4 4).trans rfl;have hsz4:w.heap.size+1+1<w4.heap.size:=Nat.lt_of_lt_of_le hs3 hb4.size;(have hsz4':w.heap.size+1<w4.heap.size:=by omega);clear hF4 hX4 hs3
    by_cases hlen:(x.args.length:Int)=nn
    · (have hlb:((x.args.length:Int) != nn)=false:=by simp [hlen]);have HLEN:=Lib.hid hlen;clear hlen;(go_wp2_with fail);obtain ⟨w5,hw5,hs5,hk5,hb5,hc5,-⟩:=named w4 #[.int .i64 nn,.slice A2 tt.length c2,.int .i64 dd] 128;rw [← hw5];have hK5:Kept w w5:=(q6 hB4).trans hk5;have hB5:Below w.heap.size w w5:=hB4.trans (hb5.mono hB4.size);have hsz5:w.heap.size+1+1<w5.heap.size:=by omega
      (have hsz5':w.heap.size+1<w5.heap.size:=by omega);have y0:w5.cell? ⟨w4.heap.size,0,none⟩=some (.int .i64 nn):=hc5 0 _ rfl;have y1:w5.cell? ⟨w4.heap.size,1,none⟩=some (.slice A2 tt.length c2):=hc5 1 _ rfl;have y2:w5.cell? ⟨w4.heap.size,2,none⟩=some (.int .i64 dd):=hc5 2 _ rfl;have u0:=hk5 _ _ u0;have u1:=hk5 _ _ u1;have u2:=hk5 _ _ u2;have u3:=hk5 _ _ u3;have x0:=hk5 _ _ x0
      have x1:=hk5 _ _ x1;have x2:=hk5 _ _ x2;have x3:=hk5 _ _ x3;have x4:=hk5 _ _ x4;have hts5:=SInts.keep hk5 hts;clear hw5 hs5 hc5;refine (areAt_any x.args _ _ _ ⟨A,c,rfl,SInts.keep hK5 hxa⟩).mono ?_;rintro e w' ⟨rfl,rfl⟩;cases har:areAtB x.args f.regs.length
      · (have HE4:Hid (ownE m f x=4):=Lib.hid (by rw [HOWN.out,if_pos HLEN.out,if_neg (by rw [har];decide)]));clear har;(go_wp2_with fail);(go_ret);exact ⟨by rw [HE4.out];rfl,hB5⟩
      · have HAR:=Lib.hid har;clear har
        by_cases hd0:dd=0
        · (have hdb:(dd != 0)=false:=by simp [hd0]);have HD0:=Lib.hid hd0;clear hd0;(go_wp2_with fail);refine (fits_any f x nn tt dd _ _ _ w5 (VFun.keep hK5 hf0) (VIns.keep hK5 hx0) ⟨A2,c2,rfl,hts5,hm64,hdd64⟩ HAR.out HLEN.out (.inl HD0.out)).mono ?_;rintro e w6 ⟨rfl,hb6⟩;have hB6:Below w.heap.size w w6:=hB5.trans (hb6.mono hB5.size);cases hfit:fitsB f x nn tt dd
          · (have HE3:Hid (ownE m f x=3):=Lib.hid (by rw [HOWN.out,if_pos HLEN.out,if_pos HAR.out,if_pos (.inl HD0.out),if_neg (by rw [hfit];decide)]));clear hfit;(go_wp2_with fail);(go_ret);exact ⟨by rw [HE3.out];rfl,hB6⟩
          · have HE3:Hid (ownE m f x=0):=Lib.hid (by rw [HOWN.out,if_pos HLEN.out,if_pos HAR.out,if_pos (.inl HD0.out),if_pos hfit]);clear hfit;(go_wp2_with fail);(go_ret);exact ⟨by rw [HE3.out];rfl,hB6⟩
        · (have hdb:(dd != 0)=true:=by simp [hd0]);have HD0:=Lib.hid hd0;clear hd0;(go_wp2_with fail);refine (qx _ _ _).mono ?_;rintro e w' ⟨rfl,rfl⟩;cases hat:isAtB x.dst f.regs.length
          · (have HE4:Hid (ownE m f x=4):=Lib.hid (by rw [HOWN.out,if_pos HLEN.out,if_pos HAR.out,if_neg (by rw [hat];rintro (h | h);exact HD0.out h;cases h)]));clear hat;(go_wp2_with fail);(go_ret);exact ⟨by rw [HE4.out];rfl,hB5⟩
          · have HAT:=Lib.hid hat;clear hat;(go_wp2_with fail);refine (fits_any f x nn tt dd _ _ _ w5 (VFun.keep hK5 hf0) (VIns.keep hK5 hx0) ⟨A2,c2,rfl,hts5,hm64,hdd64⟩ HAR.out HLEN.out (.inr HAT.out)).mono ?_;rintro e w6 ⟨rfl,hb6⟩;have hB6:Below w.heap.size w w6:=hB5.trans (hb6.mono hB5.size);cases hfit:fitsB f x nn tt dd
            · (have HE3:Hid (ownE m f x=3):=Lib.hid (by rw [HOWN.out,if_pos HLEN.out,if_pos HAR.out,if_pos (.inr HAT.out),if_neg (by rw [hfit];decide)]));clear hfit;(go_wp2_with fail);(go_ret);exact ⟨by rw [HE3.out];rfl,hB6⟩
            · have HE3:Hid (ownE m f x=0):=Lib.hid (by rw [HOWN.out,if_pos HLEN.out,if_pos HAR.out,if_pos (.inr HAT.out),if_pos hfit]);clear hfit;(go_wp2_with fail);(go_ret);exact ⟨by rw [HE3.out];rfl,hB6⟩
    · (have hlb:((x.args.length:Int) != nn)=true:=by simp [hlen]);have HE6:Hid (ownE m f x=6):=Lib.hid (by rw [HOWN.out,if_neg hlen]);clear hlen;(go_wp2_with fail);(go_ret);exact ⟨by rw [HE6.out];rfl,hB4.alloc hB4.size _⟩
  · (have HE:Hid (ownE m f x=askE m x):=Lib.hid (by unfold ownE;rw [if_neg hE]));have HE0:=Lib.hid hE;clear hE;(go_enter Try.func76,Try.ntmps76);(go_wp2_with fail);obtain ⟨w3,hw3,hs3,hb3,hM3,hF3,hX3⟩:=boxes3 w (.cells #[.slice Am m.length cm] 24) (.cells #[.int .i64 f.params,.int .i64 f.result,.slice Ar f.regs.length cr,.slice Ab f.blocks.length cb] 31) (.cells #[.int .i64 x.op,.int .i64 x.dst,.slice A x.args.length c,.int .i64 x.imm,.int .i64 x.fn] 45);rw [← hw3];clear hw3;have hk3:=q6 hb3
    refine (askedOf_any m f x _ _ _ w3 (VMod.keep hk3 hm0) (VFun.keep hk3 hf0) (VIns.keep hk3 hx0)).mono ?_;rintro e w4 ⟨⟨a1,A1,n1,c1,d1,rfl,hv⟩,hb4⟩;have hB4:Below w.heap.size w w4:=hb3.trans (hb4.mono hb3.size);clear hv;have HP:=Lib.hid (errV_pos HE0.out);rw [HP.out];(go_wp2_with fail);(go_ret);exact ⟨by rw [HE.out,HP.out];rfl,hB4.alloc hB4.size _⟩
theorem isAt_isIn (a:Int) (n:Nat):isAtB a n=isIn n a:=rfl
section
variable {f:FunD} {x:InsD} (hreg:∀ a:Int,isIn f.regs.length a=true→reg f.regs a=1∨reg f.regs a=2)
include hreg
theorem restE_eq (ts:List Int) (d:Int) (bad:Bool):restE f x ts d bad =
    if areAtB x.args f.regs.length=true then (if d=0∨isIn f.regs.length x.dst=true then (if (qw f.regs x.args ts && (dstB f x d && restB x) && !bad)=true then 0 else 3) else 4) else 4:=by
  unfold restE;cases h1:areAtB x.args f.regs.length
  · rfl
  · simp only [Bool.true_and,if_true]
    by_cases h2:d=0
    · (have e:dstB f x d=decide (x.dst=-1):=by unfold dstB;rw [if_pos h2]);simp only [h2,decide_true,Bool.true_or,if_true,true_or];rw [h2] at e;rw [e];(congr 2);unfold restB;cases qw f.regs x.args ts <;> cases decide (x.dst=-1) <;> cases (decide (x.op=1) || decide (x.imm=0)) <;> cases (decide (x.op=17) || decide (x.fn=0)) <;> cases bad <;> rfl
    · simp only [h2,decide_false,Bool.false_or,false_or,if_false];cases h3:isIn f.regs.length x.dst
      · simp
      · simp only [if_true];have e:decide (0<d∧reg f.regs x.dst=d)=dstB f x d:=by
          unfold dstB;rw [if_neg h2];(congr 1);rw [eq_iff_iff];constructor
          · exact fun h=>h.2
          · intro h;exact ⟨by rcases hreg _ h3 with h4 | h4 <;> omega,h⟩
        rw [e];(congr 2);unfold restB;cases qw f.regs x.args ts <;> cases dstB f x d <;> cases (decide (x.op=1) || decide (x.imm=0)) <;> cases (decide (x.op=17) || decide (x.fn=0)) <;> cases bad <;> rfl
theorem own_17 (m:List FunD) (h17:x.op=17):ownE m f x=insE m f x:=by
  (have e1:askN m x=(funAt m x.fn).params:=by unfold askN;rw [if_pos h17]);(have e2:askT m f x=(funAt m x.fn).regs.take (qa (funAt m x.fn)):=by unfold askT;rw [if_pos h17]);(have e3:askD m f x=(funAt m x.fn).result:=by unfold askD;rw [if_pos h17]);unfold ownE insE;rw [if_pos h17,e1,e2,e3];cases h1:isIn m.length x.fn
  · (have e0:askE m x=4:=by unfold askE;rw [if_pos h17,isAt_isIn,h1];rfl);rw [e0];rfl
  · (have e0:askE m x=0:=by unfold askE;rw [if_pos h17,isAt_isIn,h1];rfl);rw [e0,if_pos rfl,if_pos rfl];generalize funAt m x.fn=g
    by_cases h2:(x.args.length:Int)=g.params
    · rw [if_pos h2,if_pos h2,restE_eq hreg];simp only [isAt_isIn];cases ho:oddB g
      · have ho:=of_decide_eq_false ho;(have et:qa g=g.params.toNat:=by unfold qa;omega);(have el:(((g.regs.take (qa g)).length:Nat):Int)=g.params:=by rw [List.length_take];unfold qa;omega);have ef:fitsB f x g.params (g.regs.take (qa g)) g.result=(qw f.regs x.args (g.regs.take g.params.toNat) && (dstB f x g.result && restB x)):=by
          unfold fitsB;rw [decide_eq_true el,Bool.true_and,et]
        rw [ef];simp
      · have ho:=of_decide_eq_true ho;(have el:¬ (((g.regs.take (qa g)).length:Nat):Int)=g.params:=by rw [List.length_take];unfold qa;omega);have ef:fitsB f x g.params (g.regs.take (qa g)) g.result=false:=by
          unfold fitsB;rw [decide_eq_false el,Bool.false_and]
        rw [ef];simp
    · rw [if_neg h2,if_neg h2]
theorem own_1 (m:List FunD) (h:x.op=1):ownE m f x=insE m f x:=by
  (have e0:askE m x=0:=by unfold askE;rw [if_neg (by omega),if_pos (by omega)]);(have e1:askN m x=0:=by unfold askN;rw [if_neg (by omega),if_pos h]);(have e2:askT m f x=[]:=by unfold askT;rw [if_neg (by omega),if_pos h]);(have e3:askD m f x=qs f x:=by unfold askD;rw [if_neg (by omega),if_pos h]);(have es:sigOf f x=some ([],dstT f x):=by unfold sigOf;rw [if_pos h]);(have ec:qs f x≠0:=by unfold qs;split <;> decide);unfold ownE insE;rw [if_pos e0,e1,e2,e3,if_neg (show ¬ x.op=17 by omega),es];dsimp only
  by_cases h2:x.args.length=0
  · rw [if_pos (show (x.args.length:Int)=_ by omega),if_pos (show x.args.length=([]:List Int).length by simpa using h2),restE_eq hreg];simp only [isAt_isIn];rcases (show isIn f.regs.length x.dst=false∨isIn f.regs.length x.dst=true by cases isIn f.regs.length x.dst <;> simp) with h3 | h3
    · (have:dstT f x=1:=by unfold dstT;rw [h3];rfl);rw [this];simp [ec,h3]
    · (have ed:dstT f x=reg f.regs x.dst:=by unfold dstT;rw [h3];rfl);have hr:=hreg _ h3;rw [ed];(have hne:reg f.regs x.dst≠0:=by omega);(have eb:dstB f x (reg f.regs x.dst)=true:=by unfold dstB;rw [if_neg hne];simp);(have et:qw f.regs x.args []=true:=by cases x.args <;> rfl);(have ef:fitsB f x 0 [] (qs f x)=(dstB f x (qs f x) && restB x):=by unfold fitsB;simp [et]);rw [ef,eb,et];have ek:dstB f x (qs f x)=!decide (x.op=1∧reg f.regs x.dst=2∧x.imm≠0∧x.imm≠1):=by
        unfold dstB;rw [if_neg ec];have:(reg f.regs x.dst=qs f x)↔¬ (x.op=1∧reg f.regs x.dst=2∧x.imm≠0∧x.imm≠1):=by
          unfold qs;rw [isAt_isIn,h3]
          by_cases hc:reg f.regs x.dst=2∧(x.imm=0∨x.imm=1)
          · rw [if_pos ⟨rfl,hc⟩];constructor
            · rintro h4 ⟨_,_,h5,h6⟩;exact hc.2.elim h5 h6
            · exact fun _=>hc.1
          · rw [if_neg (fun h4=>hc h4.2)];constructor
            · intro h4 h5;omega
            · intro h4;rcases hr with h5 | h5
              · exact h5
              · exact absurd ⟨h,h5,fun h6=>hc ⟨h5,.inl h6⟩,fun h6=>hc ⟨h5,.inr h6⟩⟩ h4
        by_cases hc:reg f.regs x.dst=qs f x
        · rw [decide_eq_true hc,decide_eq_false (this.1 hc)];rfl
        · rw [decide_eq_false hc,decide_eq_true (Decidable.not_not.1 fun h4=>hc (this.2 h4))];rfl
      rw [ek];simp only [h3,or_true,if_true,Bool.true_and];rw [Bool.and_comm]
  · rw [if_neg (show ¬ (x.args.length:Int)=_ by omega),if_neg (show ¬ x.args.length=([]:List Int).length by simpa using h2)]
theorem own_2 (m:List FunD) (h:x.op=2):ownE m f x=insE m f x:=by
  (have e0:askE m x=0:=by unfold askE;rw [if_neg (by omega),if_pos (by omega)]);(have e1:askN m x=1:=by unfold askN;rw [if_neg (by omega),if_neg (by omega),if_pos (by omega)]);(have e2:askT m f x=[copyT f x]:=by unfold askT;rw [if_neg (by omega),if_neg (by omega),if_pos h]);(have e3:askD m f x=copyT f x:=by unfold askD;rw [if_neg (by omega),if_neg (by omega),if_pos h]);(have es:sigOf f x=some ([dstT f x],dstT f x):=by unfold sigOf;rw [if_neg (by omega),if_pos h]);unfold ownE insE;rw [if_pos e0,e1,e2,e3,if_neg (show ¬ x.op=17 by omega),es];dsimp only
  by_cases h2:x.args.length=1
  · rw [if_pos (show (x.args.length:Int)=_ by omega),if_pos (show x.args.length=[dstT f x].length by simpa using h2),restE_eq hreg];simp only [isAt_isIn];obtain ⟨op,dst,args,imm,fn⟩:=x;dsimp only at *;obtain ⟨a,rfl⟩:=List.length_eq_one_iff.1 h2;cases h4:areAtB [a] f.regs.length
    · rfl
    · (have ha:isIn f.regs.length a=true:=by simpa [areAtB,isIn] using h4);(have ec:copyT f ⟨op,dst,[a],imm,fn⟩=reg f.regs a:=by show (if isAtB a f.regs.length=true then reg f.regs a else 1)=_;rw [isAt_isIn,ha];rfl);have hra:=hreg _ ha;rw [ec];rcases (show isIn f.regs.length dst=false∨isIn f.regs.length dst=true by cases isIn f.regs.length dst <;> simp) with h3 | h3
      · (have:dstT f ⟨op,dst,[a],imm,fn⟩=1:=by unfold dstT;rw [h3];rfl);rw [this];(have:reg f.regs a≠0:=by omega);simp [this,h3]
      · (have ed:dstT f ⟨op,dst,[a],imm,fn⟩=reg f.regs dst:=by unfold dstT;rw [h3];rfl);have hrd:=hreg _ h3;rw [ed];have ef:fitsB f ⟨op,dst,[a],imm,fn⟩ 1 [reg f.regs a] (reg f.regs a)=(decide (reg f.regs dst=reg f.regs a) && restB ⟨op,dst,[a],imm,fn⟩):=by
          unfold fitsB dstB;rw [if_neg (by omega)];simp [qw]
        have eg:(qw f.regs [a] [reg f.regs dst] && (dstB f ⟨op,dst,[a],imm,fn⟩ (reg f.regs dst) && restB ⟨op,dst,[a],imm,fn⟩) && !decide (op=1∧reg f.regs dst=2∧imm≠0∧imm≠1))=(decide (reg f.regs dst=reg f.regs a) && restB ⟨op,dst,[a],imm,fn⟩):=by
          unfold dstB;rw [if_neg (by omega),decide_eq_false (show ¬ (op=1∧_) by omega)];simp [qw,eq_comm]
        rw [ef,eg];simp [h3]
  · rw [if_neg (show ¬ (x.args.length:Int)=_ by omega),if_neg (show ¬ x.args.length=[dstT f x].length by simpa using h2)]
theorem own_rest (m:List FunD) (h17:x.op≠17) (h1:x.op≠1) (h2:x.op≠2):ownE m f x=insE m f x:=by
  unfold insE;rw [if_neg h17]
  by_cases hk:1≤x.op∧x.op≤18
  · (have e0:askE m x=0:=by unfold askE;rw [if_neg h17,if_pos hk]);have es:sigOf f x=some (askT m f x,askD m f x)∧askN m x=(askT m f x).length:=by
      unfold sigOf askT askD askN;obtain ⟨op,dst,args,imm,fn⟩:=x;dsimp only at *;(obtain rfl | rfl | rfl | rfl | rfl | rfl | rfl | rfl | rfl | rfl | rfl | rfl | rfl | rfl | rfl:op=3∨op=4∨op=5∨op=6∨op=7∨op=8∨op=9∨op=10∨op=11∨op=12∨op=13∨op=14∨op=15∨op=16∨op=18:=by omega);all_goals exact ⟨rfl,rfl⟩
    unfold ownE;rw [if_pos e0,es.1,es.2];dsimp only
    by_cases h3:x.args.length=(askT m f x).length
    · rw [if_pos (by omega),if_pos h3,restE_eq hreg,decide_eq_false (show ¬ (x.op=1∧_) from fun h=>h1 h.1)];have ef:fitsB f x ((askT m f x).length:Nat) (askT m f x) (askD m f x)=(qw f.regs x.args (askT m f x) && (dstB f x (askD m f x) && restB x)):=by
        unfold fitsB;rw [decide_eq_true rfl,Bool.true_and]
      rw [ef];simp [isAt_isIn]
    · rw [if_neg (by omega),if_neg h3]
  · (have e0:askE m x=6:=by unfold askE;rw [if_neg h17,if_neg hk]);have es:sigOf f x=none:=by
      unfold sigOf;rw [if_neg (by omega),if_neg (by omega),if_neg (by omega),if_neg (by omega),if_neg (by omega),if_neg (by omega),if_neg (by omega),if_neg (by omega)]
    unfold ownE;rw [e0,es]
    rfl
end
theorem own_ins (m:List FunD) (f:FunD) (x:InsD) (hty:∀ t∈f.regs,t=1∨t=2):ownE m f x=insE m f x:=by
  have hreg:∀ a:Int,isIn f.regs.length a=true→reg f.regs a=1∨reg f.regs a=2:=fun a h=>by
    have h:=of_decide_eq_true h;obtain ⟨k,rfl⟩:=Int.eq_ofNat_of_zero_le h.1;(have hk:k<f.regs.length:=by omega);rw [reg_of rfl (List.getElem?_eq_getElem hk)];exact hty _ (List.getElem_mem hk)
  by_cases h17:x.op=17
  · exact own_17 hreg m h17
  · by_cases h1:x.op=1
    · exact own_1 hreg m h1
    · by_cases h2:x.op=2
      · exact own_2 hreg m h2
      · exact own_rest hreg m h17 h1 h2
theorem ofIns:OfIns:=fun m f x vm vf vx w hm hf hx hty=>by
  rw [← own_ins m f x hty];exact ofInstr_own m f x vm vf vx w hm hf hx
end Go.Proofs.Ytfoggldjjnabcaa

namespace Go.Proofs.Ytfoggldjjnabcaa
open Go.ChangeShapes Go.WideShapes Go.RowKit Go.Deep
set_option linter.unusedVariables false
theorem lim_of_small {m:List FunD} (h:SmallM m):∀ f∈m,Lim f:=fun f hf b hb=>by
  have:=(h.2 f hf).2.2.2 b hb;exact ⟨by have:=this.2.1;omega,by have:=this.1;omega⟩
theorem typed_regs {f:FunD} (h:typedB f=true):∀ t∈f.regs,t=1∨t=2:=fun t ht=>by
  unfold typedB at h;rw [Bool.and_eq_true,Bool.and_eq_true] at h;exact of_decide_eq_true (List.all_eq_true.1 h.1.1 t ht)
set_option maxRecDepth 100000 in
set_option maxHeartbeats 4000000 in
theorem ofFunc_any (OI:OfIns) (m:List FunD) (f:FunD) (vm vf:Value) (w:World) (hm:VMod w vm m) (hf:VFun w vf f) (hlim:Lim f) :
    Calls Try.prog 47 #[vm,vf] w fun e w'=>e=.returned (errV (funE m f))∧Below w.heap.size w w':=by
  have hm0:=hm;have hf0:=hf;obtain ⟨Am,cm,rfl,hms⟩:=hm;obtain ⟨Ar,cr,Ab,cb,rfl,hr,hbs,hp64,hr64⟩:=hf;have hbl:=hbs.len;(go_enter Try.func47,Try.ntmps47);(go_wp2_with fail);obtain ⟨wa,hwa,hsa,hka,hba,hca,-⟩:=named w #[.slice Am m.length cm] 24;obtain ⟨w1,hw1,hs1,hk1,hb1,hc1,-⟩:=named wa #[.int .i64 f.params,.int .i64 f.result,.slice Ar f.regs.length cr,.slice Ab f.blocks.length cb] 31
  rw [← hwa,← hw1];rw [hsa] at hc1;have hB1:Below w.heap.size w w1:=hba.trans (hb1.mono (by omega));have q0:w1.cell? ⟨w.heap.size,0,none⟩=some (.slice Am m.length cm):=hk1 _ _ (hca 0 _ rfl);have f0:w1.cell? ⟨w.heap.size+1,0,none⟩=some (.int .i64 f.params):=hc1 0 _ rfl;have f1:w1.cell? ⟨w.heap.size+1,1,none⟩=some (.int .i64 f.result):=hc1 1 _ rfl;have f2:w1.cell? ⟨w.heap.size+1,2,none⟩=some (.slice Ar f.regs.length cr):=hc1 2 _ rfl;have f3:w1.cell? ⟨w.heap.size+1,3,none⟩=some (.slice Ab f.blocks.length cb):=hc1 3 _ rfl;have hs1:w.heap.size+1<w1.heap.size:=by omega
  clear hwa hw1 hsa hca hc1 hka hk1 hba hb1;have hk1:=q6 hB1;refine (isWithin_any f _ _ (VFun.keep hk1 hf0) hlim).mono ?_;rintro e w2 ⟨rfl,hb2⟩;have hB2:Below w.heap.size w w2:=hB1.trans (hb2.mono hB1.size);have hk2:=q6 hb2;have q0:=hk2 _ _ q0;have f0:=hk2 _ _ f0;have f1:=hk2 _ _ f1
  have f2:=hk2 _ _ f2;have f3:=hk2 _ _ f3;(have hs2:w.heap.size+1<w2.heap.size:=by have:=hb2.size;omega);cases hwi:withinB f
  · (have HE:Hid (funE m f=5):=Lib.hid (by unfold funE outerE;rw [hwi];rfl));clear hwi;(go_wp2_with fail);(go_ret);exact ⟨by rw [HE.out];rfl,hB2⟩
  · have HWI:=Lib.hid hwi;(have hn64:f.blocks.length≤64:=by unfold withinB at hwi;exact (of_decide_eq_true hwi).2.1);clear hwi;(go_wp2_with fail);refine (isTyped_any f _ _ (VFun.keep (hk1.trans hk2) hf0)).mono ?_;rintro e w3 ⟨rfl,hb3⟩;have hB3:Below w.heap.size w w3:=hB2.trans (hb3.mono hB2.size);have hk3:=q6 hb3;have q0:=hk3 _ _ q0
    have f0:=hk3 _ _ f0;have f1:=hk3 _ _ f1;have f2:=hk3 _ _ f2;have f3:=hk3 _ _ f3;cases hty:typedB f
    · (have HE:Hid (funE m f=3):=Lib.hid (by unfold funE outerE;rw [HWI.out,hty];rfl));clear hty;(go_wp2_with fail);(go_ret);exact ⟨by rw [HE.out];rfl,hB3⟩
    · have HTY:=Lib.hid hty;clear hty;(go_wp2_with fail);refine (endsWell_any f _ _ (VFun.keep ((hk1.trans hk2).trans hk3) hf0)).mono ?_;rintro e w4 ⟨rfl,hb4⟩;have hB4:Below w.heap.size w w4:=hB3.trans (hb4.mono hB3.size);have hk4:=q6 hb4;have q0:=hk4 _ _ q0;have f0:=hk4 _ _ f0
      have f1:=hk4 _ _ f1;have f2:=hk4 _ _ f2;have f3:=hk4 _ _ f3;cases hew:endsWellB f
      · (have HE:Hid (funE m f=6):=Lib.hid (by unfold funE outerE;rw [HWI.out,HTY.out,hew];rfl));clear hew;(go_wp2_with fail);(go_ret);exact ⟨by rw [HE.out];rfl,hB4⟩
      · have HEW:=Lib.hid hew;clear hew;(go_wp2_with fail);refine (phisMeet_any f _ _ (VFun.keep (((hk1.trans hk2).trans hk3).trans hk4) hf0) (by omega)).mono ?_;rintro e w5 ⟨rfl,hb5⟩;have hB5:Below w.heap.size w w5:=hB4.trans (hb5.mono hB4.size);have hk5:=q6 hb5;have hK5:=(((hk1.trans hk2).trans hk3).trans hk4).trans hk5;have q0:=hk5 _ _ q0
        have f0:=hk5 _ _ f0;have f1:=hk5 _ _ f1;have f2:=hk5 _ _ f2;have f3:=hk5 _ _ f3;(have hs5:w.heap.size+1<w5.heap.size:=by have:=hb3.size;have:=hb4.size;have:=hb5.size;omega);cases hme:meetB f
        · (have HE:Hid (funE m f=6):=Lib.hid (by unfold funE outerE;rw [HWI.out,HTY.out,HEW.out,hme];rfl));clear hme;(go_wp2_with fail);(go_ret);exact ⟨by rw [HE.out];rfl,hB5⟩
        · have HO:Hid (funE m f=qS (f.blocks.map (qk m f))):=Lib.hid (by
            have:outerE f=0:=by unfold outerE;rw [HWI.out,HTY.out,HEW.out,hme];rfl
            unfold funE;rw [if_pos this])
          clear hme;go_wp2_with fail
          go_loopw [29] (fun i wr=>∃ k:Nat,k≤f.blocks.length∧i=.int .i64 k∧Below w5.heap.size w5 wr∧Hid (qS ((f.blocks.take k).map (qk m f))=0)) (fun i _=>f.blocks.length - (intOf i).toNat)
          case atStart=>exact ⟨0,Nat.zero_le _,rfl,Below.refl _ _,Lib.hid rfl⟩
          case round =>
            obtain ⟨k,hk,rfl,hbel,hi⟩:=hrel;have hkw:Kept w5 wr:=q6 hbel;have hB:Below w.heap.size w wr:=hB5.trans (hbel.mono hB5.size);have hso:=hbel.size;have a0:=hkw _ _ q0;have e0:=hkw _ _ f0;have e1:=hkw _ _ f1;have e2:=hkw _ _ f2;have e3:=hkw _ _ f3
            (have n0:w.heap.size<wr.heap.size:=by omega);have n1:w.heap.size+1<wr.heap.size:=by omega
            by_cases hlt:k<f.blocks.length
            · obtain ⟨bb,oo,b,rfl,hx,⟨Ap,cp,h0,z0⟩,⟨Ai,ci,h1,z1⟩,⟨h2,z2⟩,⟨h3,z3⟩,⟨At,ct,h4,z4⟩⟩:=(SBlks.keep (hK5.trans hkw) hbs).at_ hlt;(go_wp2_with fail);obtain ⟨wn,hwn,hsn,hkn,hbn,-,-⟩:=named wr #[.slice Ap b.phis.length cp,.slice Ai b.ins.length ci,.int .i64 b.term.kind,.int .i64 b.term.arg,.slice At b.term.to.length ct] 43;have hbn':Below w5.heap.size w5 wn:=hbel.trans (hbn.mono (by omega));have hBn:Below w.heap.size w wn:=hB.trans (hbn.mono hB.size);rw [← hwn];clear hwn hsn;have hK:=(hK5.trans hkw).trans hkn;refine (ofBlock_any OI m f b _ _ _ _ (VMod.keep hK hm0) (VFun.keep hK hf0) ⟨Ap,cp,Ai,ci,At,ct,rfl,SPhis.keep hkn z0,SInss.keep hkn z1,SInts.keep hkn z4,z2,z3⟩ (typed_regs HTY.out)).mono ?_
              rintro e w7 ⟨rfl,hb7⟩;have hb7':Below w5.heap.size w5 w7:=hbn'.trans (hb7.mono hbn'.size);have hB7:Below w.heap.size w w7:=hBn.trans (hb7.mono hBn.size)
              by_cases hc:qk m f b=0
              · have HC:=Lib.hid hc;rw [hc,errV_zero];clear hc;go_wp2_with fail
                go_roundw
                case rel=>exact ⟨k+1,by omega,by go_num,hb7',Lib.hid (by rw [first_map_at (qk m f) hx.out hi.out];exact HC.out)⟩
                case measure=>simp [intOf];omega
              · (have HC:Hid (funE m f=qk m f b):=Lib.hid (by rw [HO.out];exact first_map_stop (qk m f) hx.out hi.out hc));rw [errV_pos hc];have HC2:=Lib.hid hc;clear hc;(go_wp2_with fail);(go_ret);exact ⟨by rw [HC.out,errV_pos HC2.out];rfl,hB7⟩
            · (have HE:Hid (funE m f=0):=Lib.hid (by rw [HO.out];exact first_map_done (qk m f) hi.out (Nat.le_of_not_lt hlt)));(go_wp2_with fail);(go_ret);exact ⟨by rw [HE.out];rfl,hB⟩
def ErrAt (w:World) (v:Value) (p:Int × Int):Prop :=
  (p.1=0∧v=.nilIface)∨(p.1≠0∧p.2=-1∧v=.iface 50 (.int .i64 p.1)) ∨
  (p.1≠0∧0≤p.2∧∃ g,v=.iface 74 (.pointer (some ⟨g,0,none⟩))∧w.cell? ⟨g,0,none⟩=some (.int .i64 p.2)∧w.cell? ⟨g,1,none⟩=some (.iface 50 (.int .i64 p.1)))
theorem ErrAt.keep {w w':World} (h:Kept w w') {v:Value} {p:Int × Int} (hv:ErrAt w v p):ErrAt w' v p:=by
  rcases hv with h1 | h1 | ⟨h1,h2,g,h3,h4,h5⟩
  · exact .inl h1
  · exact .inr (.inl h1)
  · exact .inr (.inr ⟨h1,h2,g,h3,h _ _ h4,h _ _ h5⟩)
theorem ErrAt.nil {w:World} {v:Value} {p:Int × Int} (hv:ErrAt w v p) (hp:p.1=0):v=.nilIface:=by
  rcases hv with h1 | h1 | h1
  · exact h1.2
  · exact absurd hp h1.1
  · exact absurd hp h1.1
theorem ErrAt.iface {w:World} {v:Value} {p:Int × Int} (hv:ErrAt w v p) (hp:p.1≠0):∃ t x,v=.iface t x:=by
  rcases hv with h1 | h1 | ⟨_,_,g,h3,_⟩
  · exact absurd h1.1 hp
  · exact ⟨_,_,h1.2.2⟩
  · exact ⟨_,_,h3⟩
set_option maxRecDepth 100000 in
set_option maxHeartbeats 4000000 in
theorem module_any (OI:OfIns) (m:List FunD) (vm:Value) (w:World) (hm:VMod w vm m) (hlim:∀ f∈m,Lim f) :
    Calls Try.prog 30 #[vm] w fun e w'=>(∃ v,e=.returned v∧ErrAt w' v (modE m))∧Below w.heap.size w w':=by
  have hm0:=hm;obtain ⟨Am,cm,rfl,hms⟩:=hm;have hml:=hms.len
  by_cases h32:32<m.length
  · have HE:Hid (modE m=(5,-1)):=Lib.hid (if_pos h32);(go_enter Try.func30,Try.ntmps30);(go_wp2_with fail);(go_ret);exact ⟨⟨_,rfl,by rw [HE.out];exact .inr (.inl ⟨by decide,rfl,rfl⟩)⟩,(Below.refl _ _).alloc (Nat.le_refl _) _⟩
  · have HM:Hid (modE m=modK m m 0):=Lib.hid (if_neg h32);(go_enter Try.func30,Try.ntmps30);(go_wp2_with fail);obtain ⟨w1,hw1,hs1,hk1,hB1,hc1,-⟩:=named w #[.slice Am m.length cm] 24;rw [← hw1];have q0:w1.cell? ⟨w.heap.size,0,none⟩=some (.slice Am m.length cm):=hc1 0 _ rfl;(have hs1:w.heap.size<w1.heap.size:=by omega);clear hw1 hc1
    go_loopw [14] (fun i wr=>∃ k:Nat,k≤m.length∧i=.int .i64 k∧Below w1.heap.size w1 wr∧Hid ((modK m (m.take k) 0).1=0)) (fun i _=>m.length - (intOf i).toNat)
    case atStart=>exact ⟨0,Nat.zero_le _,rfl,Below.refl _ _,Lib.hid rfl⟩
    case round =>
      obtain ⟨k,hk,rfl,hbel,hi⟩:=hrel;have hkw:Kept w1 wr:=q6 hbel;have hB:Below w.heap.size w wr:=hB1.trans (hbel.mono hB1.size);have hso:=hbel.size;have a0:=hkw _ _ q0;have n0:w.heap.size<wr.heap.size:=by omega
      by_cases hlt:k<m.length
      · obtain ⟨bb,oo,f,rfl,hx,⟨h0,z0⟩,⟨h1,z1⟩,⟨Ar,cr,h2,z2⟩,Ab,cb,h3,z3⟩:=(SFuns.keep (hk1.trans hkw) hms).at_ hlt;(go_wp2_with fail);obtain ⟨wn,hwn,hsn,hkn,hbn,-,-⟩:=named wr #[.int .i64 f.params,.int .i64 f.result,.slice Ar f.regs.length cr,.slice Ab f.blocks.length cb] 31;have hbn':Below w1.heap.size w1 wn:=hbel.trans (hbn.mono (by omega));have hBn:Below w.heap.size w wn:=hB.trans (hbn.mono hB.size);rw [← hwn];clear hwn hsn;have hK:=(hk1.trans hkw).trans hkn;refine (ofFunc_any OI m f _ _ _ (VMod.keep hK hm0) ⟨Ar,cr,Ab,cb,rfl,SInts.keep hkn z2,SBlks.keep hkn z3,z0,z1⟩ (hlim f (List.mem_of_getElem? hx.out))).mono ?_
        rintro e w7 ⟨rfl,hb7⟩;have hb7':Below w1.heap.size w1 w7:=hbn'.trans (hb7.mono hbn'.size);have hB7:Below w.heap.size w w7:=hBn.trans (hb7.mono hBn.size)
        by_cases hc:funE m f=0
        · have HC:=Lib.hid hc;rw [hc,errV_zero];clear hc;go_wp2_with fail
          go_roundw
          case rel=>exact ⟨k+1,by omega,by go_num,hb7',Lib.hid (by rw [modK_step hx.out hi.out,if_pos HC.out])⟩
          case measure=>simp [intOf];omega
        · (have HC:Hid (modE m=(funE m f,(k:Int))):=Lib.hid (by rw [HM.out];exact modK_stop hx.out hi.out hc));rw [errV_pos hc];have HC2:=Lib.hid hc;clear hc;(go_wp2_with fail);(go_ret);exact ⟨⟨_,rfl,by rw [HC.out];exact .inr (.inr ⟨HC2.out,by show (0:Int)≤k;omega,w7.heap.size,rfl,by simp,by simp⟩)⟩,hB7.alloc hB7.size _⟩
      · have HE:Hid (modE m=(0,-1)):=Lib.hid (by
          have:=hi.out;rw [List.take_of_length_le (Nat.le_of_not_lt hlt)] at this
          rw [HM.out];exact modK_ok this)
        (go_wp2_with fail);(go_ret);exact ⟨⟨_,rfl,by rw [HE.out];exact .inl ⟨rfl,rfl⟩⟩,hB⟩
end Go.Proofs.Ytfoggldjjnabcaa
