/- fits, and ofInstr: it does what the document says. -/
import Derived.Test.YtfoggldjjnabcaaGreatDoorInsCJ
import Derived.Test.YtfoggldjjnabcaaGreatDoorEqEJ
namespace Go.Proofs.YtfoggldjjnabcaaGreatDoor
open Go.ChangeShapes Go.WideShapes Go.RowKit Go.Deep
set_option linter.unusedVariables false
theorem boxes3 (w:World) (A B C:Obj):∃ w4,w4=((w.alloc A).alloc B).alloc C∧w.heap.size+1+1<w4.heap.size∧Below w.heap.size w w4 ∧
    w4.heap[w.heap.size]?=some A∧w4.heap[w.heap.size+1]?=some B∧w4.heap[w.heap.size+1+1]?=some C:=by
  refine ⟨_,rfl,by simp,(((Below.refl _ w).alloc (Nat.le_refl _) _).alloc (by simp) _).alloc (by simp;omega) _,?_,?_,?_⟩
  · show (((w.heap.push A).push B).push C)[w.heap.size]?=some A;rw [Array.getElem?_push,if_neg (by simp;omega),Array.getElem?_push,if_neg (by simp),Array.getElem?_push,if_pos rfl]
  · show (((w.heap.push A).push B).push C)[w.heap.size+1]?=some B;rw [Array.getElem?_push,if_neg (by simp),Array.getElem?_push,if_pos (by simp)]
  · show (((w.heap.push A).push B).push C)[w.heap.size+1+1]?=some C;rw [Array.getElem?_push,if_pos (by simp)]
theorem typesB_iff {regs:List Int}:∀ {l ts:List Int},qb regs l ts=true↔∀ (j:Nat) (a t:Int),l[j]?=some a→ts[j]?=some t→reg regs a=t:=by
  intro l
  induction l with
  | nil=>intro ts;simp [qb]
  | cons a l ih =>
    intro ts;cases ts with
    | nil=>simp [qb]
    | cons t ts =>
      simp only [qb,Bool.and_eq_true,decide_eq_true_eq,ih];constructor
      · rintro ⟨h1,h2⟩ j b s hb hs;cases j with
        | zero=>simp at hb hs;rw [← hb,← hs];exact h1
        | succ j=>exact h2 j b s (by simpa using hb) (by simpa using hs)
      · intro h;exact ⟨h 0 a t rfl rfl,fun j b s hb hs=>h (j+1) b s (by simpa using hb) (by simpa using hs)⟩
def dstB (f:FunD) (x:InsD) (d:Int):Bool:=if d=0 then decide (x.dst=-1) else decide (reg f.regs x.dst=d)
def restB (x:InsD):Bool:=(decide (x.op=1) || decide (x.imm=0)) && (decide (x.op=17) || decide (x.fn=0))
def fitsB (f:FunD) (x:InsD) (many:Int) (ts:List Int) (d:Int):Bool:=decide ((ts.length:Int)=many) && (qb f.regs x.args ts && (dstB f x d && restB x))
set_option maxRecDepth 100000 in
set_option maxHeartbeats 4000000 in
theorem fits_any (f:FunD) (x:InsD) (many:Int) (ts:List Int) (d:Int) (vf vx vA:Value) (w:World) (hf:VFun w vf f) (hx:VIns w vx x) (hA:VAsk w vA many ts d)
    (hat:qQ x.args f.regs.length=true) (hn:(x.args.length:Int)=many) (hd:d=0∨isAtB x.dst f.regs.length=true) :
    Calls Tryz.prog 144 #[vf,vx,vA] w fun e w'=>e=.returned (.bool (fitsB f x many ts d))∧Below w.heap.size w w':=by
  obtain ⟨Ar,cr,Ab,cb,rfl,hr,hbs,hp64,hr64⟩:=hf;obtain ⟨A,c,rfl,hxa,ho64,hd64,hi64,hf64⟩:=hx;obtain ⟨At,ct,rfl,hts,hm64,hdd64⟩:=hA;obtain ⟨op,dst,args,imm,fn⟩:=x;dsimp only at *;have hrl:=hr.len;have hal:=hxa.len;have htl:=hts.len
  by_cases hm:(ts.length:Int)=many
  · (have hmb:((ts.length:Int) != many)=false:=by simp [hm]);have hlen:args.length=ts.length:=by omega
    have HF:Hid (fitsB f ⟨op,dst,args,imm,fn⟩ many ts d=(qb f.regs args ts && (dstB f ⟨op,dst,args,imm,fn⟩ d && restB ⟨op,dst,args,imm,fn⟩))):=Lib.hid (by
      unfold fitsB;rw [decide_eq_true hm,Bool.true_and])
    have HL:=Lib.hid hlen;have HAT:=Lib.hid hat;clear hm hn hlen hat;(go_enter Tryz.func144,Tryz.ntmps144);(go_wp2_with fail);obtain ⟨w3,hw3,hs3,hb3,hF3,hX3,hW3⟩:=boxes3 w (.cells #[.int .i64 f.params,.int .i64 f.result,.slice Ar f.regs.length cr,.slice Ab f.blocks.length cb] 30) (.cells #[.int .i64 op,.int .i64 dst,.slice A args.length c,.int .i64 imm,.int .i64 fn] 53) (.cells #[.int .i64 many,.slice At ts.length ct,.int .i64 d] 204);rw [← hw3];clear hw3;have u2:=(q8 hF3 2).trans rfl
    have x0:=(q8 hX3 0).trans rfl;have x1:=(q8 hX3 1).trans rfl;have x2:=(q8 hX3 2).trans rfl;have x3:=(q8 hX3 3).trans rfl;have x4:=(q8 hX3 4).trans rfl;have y0:=(q8 hW3 0).trans rfl;have y1:=(q8 hW3 1).trans rfl;have y2:=(q8 hW3 2).trans rfl;have hk3:=q6 hb3
    have hxa3:=SInts.keep hk3 hxa;have hr3:=SInts.keep hk3 hr;have hts3:=SInts.keep hk3 hts;clear hF3 hX3 hW3
    go_loopw [18] (fun i wr=>∃ k q:Nat,k≤args.length∧i=.int .i64 k∧Hid (∀ (j:Nat) (a t:Int),j<k→args[j]?=some a→ts[j]?=some t→reg f.regs a=t)∧wr=w3.drewN q) (fun i _=>args.length - (intOf i).toNat)
    case atStart=>exact ⟨0,0,Nat.zero_le _,rfl,Lib.hid (fun j a t h=>absurd h (Nat.not_lt_zero j)),rfl⟩
    case round =>
      obtain ⟨k,q,hk,rfl,hi,rfl⟩:=hrel
      by_cases hlt:k<args.length
      · obtain ⟨b,o,a,rfl,ha,hac,-⟩:=hxa3.int hlt;(obtain ⟨b2,o2,t,rfl,ht,htc,-⟩:=hts3.int (k:=k) (by rw [← HL.out];exact hlt));(have hkt:k<ts.length:=by rw [← HL.out];exact hlt);obtain ⟨ha0,ha1⟩:=areAtB_at HAT.out ha.out;obtain ⟨an,rfl,han⟩:=reg_at ha0 ha1;obtain ⟨br,or_,z,rfl,hz,hzc,-⟩:=hr3.int han;have HZ:Hid (reg f.regs an=z):=Lib.hid (reg_of rfl hz.out)
        by_cases hzt:z=t
        · (have hzb:(z != t)=false:=by simp [hzt]);have HZT:=Lib.hid hzt;clear hzt;(go_wp2_with fail);(go_quiet (fail));go_wp2_with fail
          go_roundw
          case rel=>exact ⟨k+1,_,by omega,by go_num,Lib.hid (fun j a' t' hj ha' ht'=>by
            by_cases e:j=k
            · subst e;have e1:=Option.some.inj (ha'.symm.trans ha.out);have e2:=Option.some.inj (ht'.symm.trans ht.out);rw [e1,e2,HZ.out,HZT.out]
            · exact hi.out j a' t' (by omega) ha' ht'),rfl⟩
          case measure=>simp [intOf];omega
        · have hzb:(z != t)=true:=by simp [hzt]
          have HE:Hid (fitsB f ⟨op,dst,args,imm,fn⟩ many ts d=false):=Lib.hid (by
            rw [HF.out];have:qb f.regs args ts=false:=by
              cases e:qb f.regs args ts
              · rfl
              · exact absurd (HZ.out.symm.trans (typesB_iff.1 e k _ _ ha.out ht.out)) hzt
            rw [this];rfl)
          clear hzt;(go_wp2_with fail);(go_quiet (fail));(go_wp2_with fail);(go_ret);exact ⟨by rw [HE.out];rfl,below_drewN (below_drewN hb3 _) _⟩
      · have HT:Hid (fitsB f ⟨op,dst,args,imm,fn⟩ many ts d=(dstB f ⟨op,dst,args,imm,fn⟩ d && restB ⟨op,dst,args,imm,fn⟩)):=Lib.hid (by
          rw [HF.out];have:qb f.regs args ts=true:=typesB_iff.2 fun j a' t' ha' ht'=>hi.out j a' t' (by have:=(List.getElem?_eq_some_iff.1 ha').1;omega) ha' ht'
          rw [this,Bool.true_and])
        clear hi HF
        by_cases hd0:d=0
        · have hdb:(d == 0)=true:=by simp [hd0]
          by_cases hdst:dst=-1
          · have hdsb:(dst != -1)=false:=by simp [hdst]
            have HB:Hid (fitsB f ⟨op,dst,args,imm,fn⟩ many ts d=restB ⟨op,dst,args,imm,fn⟩):=Lib.hid (by
              rw [HT.out];unfold dstB;rw [if_pos hd0,decide_eq_true hdst,Bool.true_and])
            clear hd0 hdst hd
            by_cases hi0:imm=0
            · have hib:(imm != 0)=false:=by simp [hi0]
              by_cases hf0:fn=0
              · (have hfb:(fn == 0)=true:=by simp [hf0]);(have HR:Hid (restB ⟨op,dst,args,imm,fn⟩=true):=Lib.hid (by unfold restB;simp [hi0,hf0]));clear hi0 hf0;(go_wp2_with fail);(go_ret);exact ⟨by rw [HB.out,HR.out];rfl,below_drewN hb3 _⟩
              · have hfb:(fn == 0)=false:=by simp [hf0]
                by_cases ho:op=17
                · (have hob:(op == 17)=true:=by simp [ho]);(have HR:Hid (restB ⟨op,dst,args,imm,fn⟩=true):=Lib.hid (by unfold restB;simp [hi0,ho]));clear hi0 hf0 ho;(go_wp2_with fail);(go_ret);exact ⟨by rw [HB.out,HR.out];rfl,below_drewN hb3 _⟩
                · (have hob:(op == 17)=false:=by simp [ho]);(have HR:Hid (restB ⟨op,dst,args,imm,fn⟩=false):=Lib.hid (by unfold restB;simp [hf0,ho]));clear hi0 hf0 ho;(go_wp2_with fail);(go_ret);exact ⟨by rw [HB.out,HR.out];rfl,below_drewN hb3 _⟩
            · have hib:(imm != 0)=true:=by simp [hi0]
              by_cases ho1:op=1
              · (have hob1:(op != 1)=false:=by simp [ho1]);have hob:(op == 17)=false:=by simp [ho1]
                by_cases hf0:fn=0
                · (have hfb:(fn == 0)=true:=by simp [hf0]);(have HR:Hid (restB ⟨op,dst,args,imm,fn⟩=true):=Lib.hid (by unfold restB;simp [ho1,hf0]));clear hi0 ho1 hf0;(go_wp2_with fail);(go_ret);exact ⟨by rw [HB.out,HR.out];rfl,below_drewN hb3 _⟩
                · (have hfb:(fn == 0)=false:=by simp [hf0]);(have HR:Hid (restB ⟨op,dst,args,imm,fn⟩=false):=Lib.hid (by unfold restB;simp [ho1,hf0]));clear hi0 ho1 hf0;(go_wp2_with fail);(go_ret);exact ⟨by rw [HB.out,HR.out];rfl,below_drewN hb3 _⟩
              · (have hob1:(op != 1)=true:=by simp [ho1]);(have HR:Hid (restB ⟨op,dst,args,imm,fn⟩=false):=Lib.hid (by unfold restB;simp [ho1,hi0]));clear hi0 ho1;(go_wp2_with fail);(go_ret);exact ⟨by rw [HB.out,HR.out];rfl,below_drewN hb3 _⟩
          · have hdsb:(dst != -1)=true:=by simp [hdst]
            have HE:Hid (fitsB f ⟨op,dst,args,imm,fn⟩ many ts d=false):=Lib.hid (by
              rw [HT.out];unfold dstB;rw [if_pos hd0,decide_eq_false hdst,Bool.false_and])
            clear hd0 hdst hd;(go_wp2_with fail);(go_ret);exact ⟨by rw [HE.out];rfl,below_drewN hb3 _⟩
        · (have hdb:(d == 0)=false:=by simp [hd0]);have hin:0≤dst∧dst<f.regs.length:=of_decide_eq_true (hd.resolve_left hd0);obtain ⟨dn,rfl,hdn⟩:=reg_at hin.1 hin.2;obtain ⟨br,or_,z,rfl,hz,hzc,-⟩:=hr3.int hdn;have HZ:Hid (reg f.regs dn=z):=Lib.hid (reg_of rfl hz.out);have hin1:=hin.1;have hin2:=hin.2;clear hin hd
          by_cases hzd:z=d
          · have hzb:(z != d)=false:=by simp [hzd]
            have HB:Hid (fitsB f ⟨op,dn,args,imm,fn⟩ many ts d=restB ⟨op,dn,args,imm,fn⟩):=Lib.hid (by
              rw [HT.out];unfold dstB;rw [if_neg hd0,HZ.out,decide_eq_true hzd,Bool.true_and])
            clear hd0 hzd;(go_wp2_with fail);go_quiet (fail)
            by_cases hi0:imm=0
            · have hib:(imm != 0)=false:=by simp [hi0]
              by_cases hf0:fn=0
              · (have hfb:(fn == 0)=true:=by simp [hf0]);(have HR:Hid (restB ⟨op,dn,args,imm,fn⟩=true):=Lib.hid (by unfold restB;simp [hi0,hf0]));clear hi0 hf0;(go_wp2_with fail);(go_ret);exact ⟨by rw [HB.out,HR.out];rfl,below_drewN hb3 _⟩
              · have hfb:(fn == 0)=false:=by simp [hf0]
                by_cases ho:op=17
                · (have hob:(op == 17)=true:=by simp [ho]);(have HR:Hid (restB ⟨op,dn,args,imm,fn⟩=true):=Lib.hid (by unfold restB;simp [hi0,ho]));clear hi0 hf0 ho;(go_wp2_with fail);(go_ret);exact ⟨by rw [HB.out,HR.out];rfl,below_drewN hb3 _⟩
                · (have hob:(op == 17)=false:=by simp [ho]);(have HR:Hid (restB ⟨op,dn,args,imm,fn⟩=false):=Lib.hid (by unfold restB;simp [hf0,ho]));clear hi0 hf0 ho;(go_wp2_with fail);(go_ret);exact ⟨by rw [HB.out,HR.out];rfl,below_drewN hb3 _⟩
            · have hib:(imm != 0)=true:=by simp [hi0]
              by_cases ho1:op=1
              · (have hob1:(op != 1)=false:=by simp [ho1]);have hob:(op == 17)=false:=by simp [ho1]
                by_cases hf0:fn=0
                · (have hfb:(fn == 0)=true:=by simp [hf0]);(have HR:Hid (restB ⟨op,dn,args,imm,fn⟩=true):=Lib.hid (by unfold restB;simp [ho1,hf0]));clear hi0 ho1 hf0;(go_wp2_with fail);(go_ret);exact ⟨by rw [HB.out,HR.out];rfl,below_drewN hb3 _⟩
                · (have hfb:(fn == 0)=false:=by simp [hf0]);(have HR:Hid (restB ⟨op,dn,args,imm,fn⟩=false):=Lib.hid (by unfold restB;simp [ho1,hf0]));clear hi0 ho1 hf0;(go_wp2_with fail);(go_ret);exact ⟨by rw [HB.out,HR.out];rfl,below_drewN hb3 _⟩
              · (have hob1:(op != 1)=true:=by simp [ho1]);(have HR:Hid (restB ⟨op,dn,args,imm,fn⟩=false):=Lib.hid (by unfold restB;simp [ho1,hi0]));clear hi0 ho1;(go_wp2_with fail);(go_ret);exact ⟨by rw [HB.out,HR.out];rfl,below_drewN hb3 _⟩
          · have hzb:(z != d)=true:=by simp [hzd]
            have HE:Hid (fitsB f ⟨op,dn,args,imm,fn⟩ many ts d=false):=Lib.hid (by
              rw [HT.out];unfold dstB;rw [if_neg hd0,HZ.out,decide_eq_false hzd,Bool.false_and])
            clear hd0 hzd;(go_wp2_with fail);(go_quiet (fail));(go_wp2_with fail);(go_ret);exact ⟨by rw [HE.out];rfl,below_drewN (below_drewN hb3 _) _⟩
  · (have hmb:((ts.length:Int) != many)=true:=by simp [hm]);(have HE:Hid (fitsB f ⟨op,dst,args,imm,fn⟩ many ts d=false):=Lib.hid (by unfold fitsB;rw [decide_eq_false hm,Bool.false_and]));clear hm hn;(go_enter Tryz.func144,Tryz.ntmps144);(go_wp2_with fail);obtain ⟨w3,hw3,hs3,hb3,hF3,hX3,hW3⟩:=boxes3 w (.cells #[.int .i64 f.params,.int .i64 f.result,.slice Ar f.regs.length cr,.slice Ab f.blocks.length cb] 30) (.cells #[.int .i64 op,.int .i64 dst,.slice A args.length c,.int .i64 imm,.int .i64 fn] 53) (.cells #[.int .i64 many,.slice At ts.length ct,.int .i64 d] 204);rw [← hw3];clear hw3;have u2:=(q8 hF3 2).trans rfl
    have x0:=(q8 hX3 0).trans rfl;have x1:=(q8 hX3 1).trans rfl;have x2:=(q8 hX3 2).trans rfl;have x3:=(q8 hX3 3).trans rfl;have x4:=(q8 hX3 4).trans rfl;have y0:=(q8 hW3 0).trans rfl;have y1:=(q8 hW3 1).trans rfl;have y2:=(q8 hW3 2).trans rfl;have hk3:=q6 hb3
    have hxa3:=SInts.keep hk3 hxa;have hr3:=SInts.keep hk3 hr;have hts3:=SInts.keep hk3 hts;clear hF3 hX3 hW3;(go_ret);exact ⟨by rw [HE.out];rfl,hb3⟩
def ownE (m:List FunD) (f:FunD) (x:InsD):Int :=
  if askE m x=0 then
    (if (x.args.length:Int)=askN m x then
      (if qQ x.args f.regs.length=true then
        (if askD m f x=0∨isAtB x.dst f.regs.length=true then
          (if fitsB f x (askN m x) (askT m f x) (askD m f x)=true then 0 else 3)
        else 4)
      else 4)
    else 6)
  else askE m x
set_option maxRecDepth 100000 in
set_option maxHeartbeats 4000000 in
theorem ofInstr_own (m:List FunD) (f:FunD) (x:InsD) (vm vf vx:Value) (w:World) (hm:VMod w vm m) (hf:VFun w vf f) (hx:VIns w vx x) :
    Calls Tryz.prog 137 #[vm,vf,vx] w fun e w'=>e=.returned (errV (ownE m f x))∧Below w.heap.size w w':=by
  have hm0:=hm;have hf0:=hf;have hx0:=hx;obtain ⟨Am,cm,rfl,hms⟩:=hm;obtain ⟨Ar,cr,Ab,cb,rfl,hr,hbs,hp64,hr64⟩:=hf;obtain ⟨A,c,rfl,hxa,ho64,hd64,hi64,hf64⟩:=hx;have hrl:=hr.len;have hal:=hxa.len
  by_cases hE:askE m x=0
  · have HE:=Lib.hid hE;(go_enter Tryz.func137,Tryz.ntmps137);(go_wp2_with fail);obtain ⟨w3,hw3,hs3,hb3,hM3,hF3,hX3⟩:=boxes3 w (.cells #[.slice Am m.length cm] 24) (.cells #[.int .i64 f.params,.int .i64 f.result,.slice Ar f.regs.length cr,.slice Ab f.blocks.length cb] 30) (.cells #[.int .i64 x.op,.int .i64 x.dst,.slice A x.args.length c,.int .i64 x.imm,.int .i64 x.fn] 53);rw [← hw3];clear hw3;have hk3:=q6 hb3;refine (askedOf_any m f x _ _ _ w3 (VMod.keep hk3 hm0) (VFun.keep hk3 hf0) (VIns.keep hk3 hx0)).mono ?_;rintro e w4 ⟨⟨a1,A1,n1,c1,d1,rfl,hv⟩,hb4⟩
    obtain ⟨A2,c2,he2,hts,hm64,hdd64⟩:=hv hE;clear hE hv;rw [HE.out,errV_zero,he2];clear he2;have HT:=Lib.hid (rfl:askT m f x=askT m f x);(have HOWN:Hid (ownE m f x=if (x.args.length:Int)=askN m x then (if qQ x.args f.regs.length=true then (if askD m f x=0∨isAtB x.dst f.regs.length=true then (if fitsB f x (askN m x) (askT m f x) (askD m f x)=true then 0 else 3) else 4) else 4) else 6):=Lib.hid (by unfold ownE;rw [if_pos HE.out]));generalize askN m x=nn at *;generalize askT m f x=tt at *;generalize askD m f x=dd at *
    have hB4:Below w.heap.size w w4:=hb3.trans (hb4.mono hb3.size);have hF4:=(hb4.block _ (qO hF3)).trans hF3;have hX4:=(hb4.block _ (qO hX3)).trans hX3;clear hF3 hX3 hM3;have u0:=(q8 hF4 0).trans rfl;have u1:=(q8 hF4 1).trans rfl;have u2:=(q8 hF4 2).trans rfl;have u3:=(q8 hF4 3).trans rfl;have x0:=(q8 hX4 0).trans rfl
    have x1:=(q8 hX4 1).trans rfl;have x2:=(q8 hX4 2).trans rfl;have x3:=(q8 hX4 3).trans rfl;have x4:=(q8 hX4 4).trans rfl;have hsz4:w.heap.size+1+1<w4.heap.size:=Nat.lt_of_lt_of_le hs3 hb4.size;(have hsz4':w.heap.size+1<w4.heap.size:=by omega);clear hF4 hX4 hs3
    by_cases hlen:(x.args.length:Int)=nn
    · (have hlb:((x.args.length:Int) != nn)=false:=by simp [hlen]);have HLEN:=Lib.hid hlen;clear hlen;(go_wp2_with fail);obtain ⟨w5,hw5,hs5,hk5,hb5,hc5,-⟩:=named w4 #[.int .i64 nn,.slice A2 tt.length c2,.int .i64 dd] 204;rw [← hw5];have hK5:Kept w w5:=(q6 hB4).trans hk5;have hB5:Below w.heap.size w w5:=hB4.trans (hb5.mono hB4.size);have hsz5:w.heap.size+1+1<w5.heap.size:=by omega
      (have hsz5':w.heap.size+1<w5.heap.size:=by omega);have y0:w5.cell? ⟨w4.heap.size,0,none⟩=some (.int .i64 nn):=hc5 0 _ rfl;have y1:w5.cell? ⟨w4.heap.size,1,none⟩=some (.slice A2 tt.length c2):=hc5 1 _ rfl;have y2:w5.cell? ⟨w4.heap.size,2,none⟩=some (.int .i64 dd):=hc5 2 _ rfl;have u0:=hk5 _ _ u0;have u1:=hk5 _ _ u1;have u2:=hk5 _ _ u2;have u3:=hk5 _ _ u3;have x0:=hk5 _ _ x0
      have x1:=hk5 _ _ x1;have x2:=hk5 _ _ x2;have x3:=hk5 _ _ x3;have x4:=hk5 _ _ x4;have hts5:=SInts.keep hk5 hts;clear hw5 hs5 hc5;refine (areAt_any x.args _ _ _ ⟨A,c,rfl,SInts.keep hK5 hxa⟩).mono ?_;rintro e w' ⟨rfl,rfl⟩;cases har:qQ x.args f.regs.length
      · (have HE4:Hid (ownE m f x=4):=Lib.hid (by rw [HOWN.out,if_pos HLEN.out,if_neg (by rw [har];decide)]));clear har;(go_wp2_with fail);(go_ret);exact ⟨by rw [HE4.out];rfl,hB5⟩
      · have HAR:=Lib.hid har;clear har
        by_cases hd0:dd=0
        · (have hdb:(dd != 0)=false:=by simp [hd0]);have HD0:=Lib.hid hd0;clear hd0;(go_wp2_with fail);refine (fits_any f x nn tt dd _ _ _ w5 (VFun.keep hK5 hf0) (VIns.keep hK5 hx0) ⟨A2,c2,rfl,hts5,hm64,hdd64⟩ HAR.out HLEN.out (.inl HD0.out)).mono ?_;rintro e w6 ⟨rfl,hb6⟩;have hB6:Below w.heap.size w w6:=hB5.trans (hb6.mono hB5.size);cases hfit:fitsB f x nn tt dd
          · (have HE3:Hid (ownE m f x=3):=Lib.hid (by rw [HOWN.out,if_pos HLEN.out,if_pos HAR.out,if_pos (.inl HD0.out),if_neg (by rw [hfit];decide)]));clear hfit;(go_wp2_with fail);(go_ret);exact ⟨by rw [HE3.out];rfl,hB6⟩
          · have HE3:Hid (ownE m f x=0):=Lib.hid (by rw [HOWN.out,if_pos HLEN.out,if_pos HAR.out,if_pos (.inl HD0.out),if_pos hfit]);clear hfit;(go_wp2_with fail);(go_ret);exact ⟨by rw [HE3.out];rfl,hB6⟩
        · (have hdb:(dd != 0)=true:=by simp [hd0]);have HD0:=Lib.hid hd0;clear hd0;(go_wp2_with fail);refine (qq _ _ _).mono ?_;rintro e w' ⟨rfl,rfl⟩;cases hat:isAtB x.dst f.regs.length
          · (have HE4:Hid (ownE m f x=4):=Lib.hid (by rw [HOWN.out,if_pos HLEN.out,if_pos HAR.out,if_neg (by rw [hat];rintro (h | h);exact HD0.out h;cases h)]));clear hat;(go_wp2_with fail);(go_ret);exact ⟨by rw [HE4.out];rfl,hB5⟩
          · have HAT:=Lib.hid hat;clear hat;(go_wp2_with fail);refine (fits_any f x nn tt dd _ _ _ w5 (VFun.keep hK5 hf0) (VIns.keep hK5 hx0) ⟨A2,c2,rfl,hts5,hm64,hdd64⟩ HAR.out HLEN.out (.inr HAT.out)).mono ?_;rintro e w6 ⟨rfl,hb6⟩;have hB6:Below w.heap.size w w6:=hB5.trans (hb6.mono hB5.size);cases hfit:fitsB f x nn tt dd
            · (have HE3:Hid (ownE m f x=3):=Lib.hid (by rw [HOWN.out,if_pos HLEN.out,if_pos HAR.out,if_pos (.inr HAT.out),if_neg (by rw [hfit];decide)]));clear hfit;(go_wp2_with fail);(go_ret);exact ⟨by rw [HE3.out];rfl,hB6⟩
            · have HE3:Hid (ownE m f x=0):=Lib.hid (by rw [HOWN.out,if_pos HLEN.out,if_pos HAR.out,if_pos (.inr HAT.out),if_pos hfit]);clear hfit;(go_wp2_with fail);(go_ret);exact ⟨by rw [HE3.out];rfl,hB6⟩
    · (have hlb:((x.args.length:Int) != nn)=true:=by simp [hlen]);have HE6:Hid (ownE m f x=6):=Lib.hid (by rw [HOWN.out,if_neg hlen]);clear hlen;(go_wp2_with fail);(go_ret);exact ⟨by rw [HE6.out];rfl,hB4.alloc hB4.size _⟩
  · (have HE:Hid (ownE m f x=askE m x):=Lib.hid (by unfold ownE;rw [if_neg hE]));have HE0:=Lib.hid hE;clear hE;(go_enter Tryz.func137,Tryz.ntmps137);(go_wp2_with fail);obtain ⟨w3,hw3,hs3,hb3,hM3,hF3,hX3⟩:=boxes3 w (.cells #[.slice Am m.length cm] 24) (.cells #[.int .i64 f.params,.int .i64 f.result,.slice Ar f.regs.length cr,.slice Ab f.blocks.length cb] 30) (.cells #[.int .i64 x.op,.int .i64 x.dst,.slice A x.args.length c,.int .i64 x.imm,.int .i64 x.fn] 53);rw [← hw3];clear hw3;have hk3:=q6 hb3
    refine (askedOf_any m f x _ _ _ w3 (VMod.keep hk3 hm0) (VFun.keep hk3 hf0) (VIns.keep hk3 hx0)).mono ?_;rintro e w4 ⟨⟨a1,A1,n1,c1,d1,rfl,hv⟩,hb4⟩;have hB4:Below w.heap.size w w4:=hb3.trans (hb4.mono hb3.size);clear hv;have HP:=Lib.hid (errV_pos HE0.out);rw [HP.out];(go_wp2_with fail);(go_ret);exact ⟨by rw [HE.out,HP.out];rfl,hB4.alloc hB4.size _⟩
theorem isAt_isIn (a:Int) (n:Nat):isAtB a n=isIn n a:=rfl
section
variable {f:FunD} {x:InsD} (hreg:∀ a:Int,isIn f.regs.length a=true→reg f.regs a=1∨reg f.regs a=2)
include hreg
theorem restE_eq (ts:List Int) (d:Int) (bad:Bool):restE f x ts d bad =
    if qQ x.args f.regs.length=true then (if d=0∨isIn f.regs.length x.dst=true then (if (qb f.regs x.args ts && (dstB f x d && restB x) && !bad)=true then 0 else 3) else 4) else 4:=by
  unfold restE;cases h1:qQ x.args f.regs.length
  · rfl
  · simp only [Bool.true_and,if_true]
    by_cases h2:d=0
    · (have e:dstB f x d=decide (x.dst=-1):=by unfold dstB;rw [if_pos h2]);simp only [h2,decide_true,Bool.true_or,if_true,true_or];rw [h2] at e;rw [e];(congr 2);unfold restB;cases qb f.regs x.args ts <;> cases decide (x.dst=-1) <;> cases (decide (x.op=1) || decide (x.imm=0)) <;> cases (decide (x.op=17) || decide (x.fn=0)) <;> cases bad <;> rfl
    · simp only [h2,decide_false,Bool.false_or,false_or,if_false];cases h3:isIn f.regs.length x.dst
      · simp
      · simp only [if_true];have e:decide (0<d∧reg f.regs x.dst=d)=dstB f x d:=by
          unfold dstB;rw [if_neg h2];(congr 1);rw [eq_iff_iff];constructor
          · exact fun h=>h.2
          · intro h;exact ⟨by rcases hreg _ h3 with h4 | h4 <;> omega,h⟩
        rw [e];(congr 2);unfold restB;cases qb f.regs x.args ts <;> cases dstB f x d <;> cases (decide (x.op=1) || decide (x.imm=0)) <;> cases (decide (x.op=17) || decide (x.fn=0)) <;> cases bad <;> rfl
theorem own_17 (m:List FunD) (h17:x.op=17):ownE m f x=insE m f x:=by
  (have e1:askN m x=(funAt m x.fn).params:=by unfold askN;rw [if_pos h17]);(have e2:askT m f x=(funAt m x.fn).regs.take (qY (funAt m x.fn)):=by unfold askT;rw [if_pos h17]);(have e3:askD m f x=(funAt m x.fn).result:=by unfold askD;rw [if_pos h17]);unfold ownE insE;rw [if_pos h17,e1,e2,e3];cases h1:isIn m.length x.fn
  · (have e0:askE m x=4:=by unfold askE;rw [if_pos h17,isAt_isIn,h1];rfl);rw [e0];rfl
  · (have e0:askE m x=0:=by unfold askE;rw [if_pos h17,isAt_isIn,h1];rfl);rw [e0,if_pos rfl,if_pos rfl];generalize funAt m x.fn=g
    by_cases h2:(x.args.length:Int)=g.params
    · rw [if_pos h2,if_pos h2,restE_eq hreg];simp only [isAt_isIn];cases ho:oddB g
      · have ho:=of_decide_eq_false ho;(have et:qY g=g.params.toNat:=by unfold qY;omega);(have el:(((g.regs.take (qY g)).length:Nat):Int)=g.params:=by rw [List.length_take];unfold qY;omega);have ef:fitsB f x g.params (g.regs.take (qY g)) g.result=(qb f.regs x.args (g.regs.take g.params.toNat) && (dstB f x g.result && restB x)):=by
          unfold fitsB;rw [decide_eq_true el,Bool.true_and,et]
        rw [ef];simp
      · have ho:=of_decide_eq_true ho;(have el:¬ (((g.regs.take (qY g)).length:Nat):Int)=g.params:=by rw [List.length_take];unfold qY;omega);have ef:fitsB f x g.params (g.regs.take (qY g)) g.result=false:=by
          unfold fitsB;rw [decide_eq_false el,Bool.false_and]
        rw [ef];simp
    · rw [if_neg h2,if_neg h2]
theorem own_1 (m:List FunD) (h:x.op=1):ownE m f x=insE m f x:=by
  (have e0:askE m x=0:=by unfold askE;rw [if_neg (by omega),if_pos (by omega)]);(have e1:askN m x=0:=by unfold askN;rw [if_neg (by omega),if_pos h]);(have e2:askT m f x=[]:=by unfold askT;rw [if_neg (by omega),if_pos h]);(have e3:askD m f x=qm f x:=by unfold askD;rw [if_neg (by omega),if_pos h]);(have es:sigOf f x=some ([],dstT f x):=by unfold sigOf;rw [if_pos h]);(have ec:qm f x≠0:=by unfold qm;split <;> decide);unfold ownE insE;rw [if_pos e0,e1,e2,e3,if_neg (show ¬ x.op=17 by omega),es];dsimp only
  by_cases h2:x.args.length=0
  · rw [if_pos (show (x.args.length:Int)=_ by omega),if_pos (show x.args.length=([]:List Int).length by simpa using h2),restE_eq hreg];simp only [isAt_isIn];rcases (show isIn f.regs.length x.dst=false∨isIn f.regs.length x.dst=true by cases isIn f.regs.length x.dst <;> simp) with h3 | h3
    · (have:dstT f x=1:=by unfold dstT;rw [h3];rfl);rw [this];simp [ec,h3]
    · (have ed:dstT f x=reg f.regs x.dst:=by unfold dstT;rw [h3];rfl);have hr:=hreg _ h3;rw [ed];(have hne:reg f.regs x.dst≠0:=by omega);(have eb:dstB f x (reg f.regs x.dst)=true:=by unfold dstB;rw [if_neg hne];simp);(have et:qb f.regs x.args []=true:=by cases x.args <;> rfl);(have ef:fitsB f x 0 [] (qm f x)=(dstB f x (qm f x) && restB x):=by unfold fitsB;simp [et]);rw [ef,eb,et];have ek:dstB f x (qm f x)=!decide (x.op=1∧reg f.regs x.dst=2∧x.imm≠0∧x.imm≠1):=by
        unfold dstB;rw [if_neg ec];have:(reg f.regs x.dst=qm f x)↔¬ (x.op=1∧reg f.regs x.dst=2∧x.imm≠0∧x.imm≠1):=by
          unfold qm;rw [isAt_isIn,h3]
          by_cases hc:reg f.regs x.dst=2∧(x.imm=0∨x.imm=1)
          · rw [if_pos ⟨rfl,hc⟩];constructor
            · rintro h4 ⟨_,_,h5,h6⟩;exact hc.2.elim h5 h6
            · exact fun _=>hc.1
          · rw [if_neg (fun h4=>hc h4.2)];constructor
            · intro h4 h5;omega
            · intro h4;rcases hr with h5 | h5
              · exact h5
              · exact absurd ⟨h,h5,fun h6=>hc ⟨h5,.inl h6⟩,fun h6=>hc ⟨h5,.inr h6⟩⟩ h4
        by_cases hc:reg f.regs x.dst=qm f x
        · rw [decide_eq_true hc,decide_eq_false (this.1 hc)];rfl
        · rw [decide_eq_false hc,decide_eq_true (Decidable.not_not.1 fun h4=>hc (this.2 h4))];rfl
      rw [ek];simp only [h3,or_true,if_true,Bool.true_and];rw [Bool.and_comm]
  · rw [if_neg (show ¬ (x.args.length:Int)=_ by omega),if_neg (show ¬ x.args.length=([]:List Int).length by simpa using h2)]
theorem own_2 (m:List FunD) (h:x.op=2):ownE m f x=insE m f x:=by
  (have e0:askE m x=0:=by unfold askE;rw [if_neg (by omega),if_pos (by omega)]);(have e1:askN m x=1:=by unfold askN;rw [if_neg (by omega),if_neg (by omega),if_pos (by omega)]);(have e2:askT m f x=[copyT f x]:=by unfold askT;rw [if_neg (by omega),if_neg (by omega),if_pos h]);(have e3:askD m f x=copyT f x:=by unfold askD;rw [if_neg (by omega),if_neg (by omega),if_pos h]);(have es:sigOf f x=some ([dstT f x],dstT f x):=by unfold sigOf;rw [if_neg (by omega),if_pos h]);unfold ownE insE;rw [if_pos e0,e1,e2,e3,if_neg (show ¬ x.op=17 by omega),es];dsimp only
  by_cases h2:x.args.length=1
  · rw [if_pos (show (x.args.length:Int)=_ by omega),if_pos (show x.args.length=[dstT f x].length by simpa using h2),restE_eq hreg];simp only [isAt_isIn];obtain ⟨op,dst,args,imm,fn⟩:=x;dsimp only at *;obtain ⟨a,rfl⟩:=List.length_eq_one_iff.1 h2;cases h4:qQ [a] f.regs.length
    · rfl
    · (have ha:isIn f.regs.length a=true:=by simpa [qQ,isIn] using h4);(have ec:copyT f ⟨op,dst,[a],imm,fn⟩=reg f.regs a:=by show (if isAtB a f.regs.length=true then reg f.regs a else 1)=_;rw [isAt_isIn,ha];rfl);have hra:=hreg _ ha;rw [ec];rcases (show isIn f.regs.length dst=false∨isIn f.regs.length dst=true by cases isIn f.regs.length dst <;> simp) with h3 | h3
      · (have:dstT f ⟨op,dst,[a],imm,fn⟩=1:=by unfold dstT;rw [h3];rfl);rw [this];(have:reg f.regs a≠0:=by omega);simp [this,h3]
      · (have ed:dstT f ⟨op,dst,[a],imm,fn⟩=reg f.regs dst:=by unfold dstT;rw [h3];rfl);have hrd:=hreg _ h3;rw [ed];have ef:fitsB f ⟨op,dst,[a],imm,fn⟩ 1 [reg f.regs a] (reg f.regs a)=(decide (reg f.regs dst=reg f.regs a) && restB ⟨op,dst,[a],imm,fn⟩):=by
          unfold fitsB dstB;rw [if_neg (by omega)];simp [qb]
        have eg:(qb f.regs [a] [reg f.regs dst] && (dstB f ⟨op,dst,[a],imm,fn⟩ (reg f.regs dst) && restB ⟨op,dst,[a],imm,fn⟩) && !decide (op=1∧reg f.regs dst=2∧imm≠0∧imm≠1))=(decide (reg f.regs dst=reg f.regs a) && restB ⟨op,dst,[a],imm,fn⟩):=by
          unfold dstB;rw [if_neg (by omega),decide_eq_false (show ¬ (op=1∧_) by omega)];simp [qb,eq_comm]
        rw [ef,eg];simp [h3]
  · rw [if_neg (show ¬ (x.args.length:Int)=_ by omega),if_neg (show ¬ x.args.length=[dstT f x].length by simpa using h2)]
theorem own_rest (m:List FunD) (h17:x.op≠17) (h1:x.op≠1) (h2:x.op≠2):ownE m f x=insE m f x:=by
  unfold insE;rw [if_neg h17]
  by_cases hk:1≤x.op∧x.op≤18
  · (have e0:askE m x=0:=by unfold askE;rw [if_neg h17,if_pos hk]);have es:sigOf f x=some (askT m f x,askD m f x)∧askN m x=(askT m f x).length:=by
      unfold sigOf askT askD askN;obtain ⟨op,dst,args,imm,fn⟩:=x;dsimp only at *;(obtain rfl | rfl | rfl | rfl | rfl | rfl | rfl | rfl | rfl | rfl | rfl | rfl | rfl | rfl | rfl:op=3∨op=4∨op=5∨op=6∨op=7∨op=8∨op=9∨op=10∨op=11∨op=12∨op=13∨op=14∨op=15∨op=16∨op=18:=by omega);all_goals exact ⟨rfl,rfl⟩
    unfold ownE;rw [if_pos e0,es.1,es.2];dsimp only
    by_cases h3:x.args.length=(askT m f x).length
    · rw [if_pos (by omega),if_pos h3,restE_eq hreg,decide_eq_false (show ¬ (x.op=1∧_) from fun h=>h1 h.1)];have ef:fitsB f x ((askT m f x).length:Nat) (askT m f x) (askD m f x)=(qb f.regs x.args (askT m f x) && (dstB f x (askD m f x) && restB x)):=by
        unfold fitsB;rw [decide_eq_true rfl,Bool.true_and]
      rw [ef];simp [isAt_isIn]
    · rw [if_neg (by omega),if_neg h3]
  · (have e0:askE m x=6:=by unfold askE;rw [if_neg h17,if_neg hk]);have es:sigOf f x=none:=by
      unfold sigOf;rw [if_neg (by omega),if_neg (by omega),if_neg (by omega),if_neg (by omega),if_neg (by omega),if_neg (by omega),if_neg (by omega),if_neg (by omega)]
    unfold ownE;rw [e0,es]
    rfl
end
theorem own_ins (m:List FunD) (f:FunD) (x:InsD) (hty:∀ t∈f.regs,t=1∨t=2):ownE m f x=insE m f x:=by
  have hreg:∀ a:Int,isIn f.regs.length a=true→reg f.regs a=1∨reg f.regs a=2:=fun a h=>by
    have h:=of_decide_eq_true h;obtain ⟨k,rfl⟩:=Int.eq_ofNat_of_zero_le h.1;(have hk:k<f.regs.length:=by omega);rw [reg_of rfl (List.getElem?_eq_getElem hk)];exact hty _ (List.getElem_mem hk)
  by_cases h17:x.op=17
  · exact own_17 hreg m h17
  · by_cases h1:x.op=1
    · exact own_1 hreg m h1
    · by_cases h2:x.op=2
      · exact own_2 hreg m h2
      · exact own_rest hreg m h17 h1 h2
theorem ofIns:OfIns:=fun m f x vm vf vx w hm hf hx hty=>by
  rw [← own_ins m f x hty];exact ofInstr_own m f x vm vf vx w hm hf hx
end Go.Proofs.YtfoggldjjnabcaaGreatDoor

namespace Go.Proofs.YtfoggldjjnabcaaGreatDoor
open Go.ChangeShapes Go.WideShapes Go.RowKit Go.Deep
set_option linter.unusedVariables false
set_option linter.unusedSimpArgs false
def exP:FunD:=⟨1,1,[1],[⟨[],[],⟨3,0,[]⟩⟩]⟩
set_option maxRecDepth 100000 in
theorem exP_form:qe [exP] 0=(0,-1):=by
  have h:qe [exP] 0=formE exP:=by
    unfold qe;rw [if_neg (by simp;rfl),if_pos ⟨by decide,by decide⟩];rfl
  rw [h];(have h1:qJ exP.blocks.length (fun j=>qv exP.blocks j == false)=-1:=by rfl);(have h2:qJ exP.regs.length (fun j=>againB exP j == true)=-1:=by rfl);(have h3:qJ exP.regs.length (fun j=>soonB exP j == true)=-1:=by rfl);unfold formE;rw [h1,h2,h3];rfl
theorem noP_form:qe [] 0=(1,-1):=by
  unfold qe;rw [if_neg (by simp;rfl),if_neg (by simp)]
theorem exP_mod {w:World} {N:Nat} (b0:w.heap[N]?=some (.cells #[.int .i64 1] 3)) (b1:w.heap[N+1]?=some (.cells #[.slice none 0 0,.slice none 0 0,.int .i64 3,.int .i64 0,.slice none 0 0] 51)) :
    VFun w (.agg #[.int .i64 1,.int .i64 1,.slice (some ⟨N,0,none⟩) 1 1,.slice (some ⟨N+1,0,none⟩) 1 1]) exP:=by
  (have i64:∀ z:Int,0≤z∧z≤10→I64 z:=fun z hz=>by unfold I64;omega);(have nil:∀ {α:Type} (sz:Nat) (R:World→Nat→Nat→α→Prop),SL w sz R none 0 []:=fun sz R=>⟨Nat.le_refl _,⟨by unfold maxLen;omega,fun _=>rfl⟩,fun hp=>absurd hp (by simp)⟩);refine ⟨some ⟨N,0,none⟩,1,some ⟨N+1,0,none⟩,1,rfl,⟨Nat.le_refl _,⟨by unfold maxLen;omega,fun e=>by cases e⟩,fun _=>⟨N,0,rfl,fun i x hi=>?_⟩⟩,⟨Nat.le_refl _,⟨by unfold maxLen;omega,fun e=>by cases e⟩,fun _=>⟨N+1,0,rfl,fun i x hi=>?_⟩⟩,i64 _ (by decide),i64 _ (by decide)⟩
  · match i,hi with
    | 0,hi=>obtain rfl:=Option.some.inj hi;exact ⟨q7 b0 0,i64 _ (by decide)⟩
  · match i,hi with
    | 0,hi =>
      obtain rfl:=Option.some.inj hi;exact ⟨⟨none,0,q7 b1 0,nil _ _⟩,⟨none,0,q7 b1 1,nil _ _⟩,⟨q7 b1 2,i64 _ (by decide)⟩,⟨q7 b1 3,i64 _ (by decide)⟩,⟨none,0,q7 b1 4,nil _ _⟩⟩
set_option maxRecDepth 100000 in
set_option maxHeartbeats 8000000 in
theorem up13_any (OI:OfIns) (w:World) (hG:OfNone w):Calls Tryz.prog 13 #[] w fun e w'=>e=.returned (.bool true)∧Below w.heap.size w w':=by
  have HOI:=Lib.hid OI;have HG:=Lib.hid hG;clear OI hG;(go_enter Tryz.func13,Tryz.ntmps13);(go_wp2_with fail);obtain ⟨w4,hw4,hsz,hbel,b0,b1,b2,b3⟩:=boxes4 w (.cells #[.int .i64 1] 3) (.cells #[.slice none 0 0,.slice none 0 0,.int .i64 3,.int .i64 0,.slice none 0 0] 51)
    (.cells #[.int .i64 1,.int .i64 1,.slice (some ⟨w.heap.size,0,none⟩) 1 1,.slice (some ⟨w.heap.size+1,0,none⟩) 1 1] 30) (.cells #[.int .i64 1,.int .i64 1,.slice (some ⟨w.heap.size,0,none⟩) 1 1,.slice (some ⟨w.heap.size+1,0,none⟩) 1 1] 30)
  rw [← hw4];clear hw4;obtain ⟨N,hN⟩:∃ N,N=w.heap.size:=⟨_,rfl⟩;rw [← hN] at hsz b0 b1 b2 b3 ⊢;have HV:Hid (VFun w4 (.agg #[.int .i64 1,.int .i64 1,.slice (some ⟨N,0,none⟩) 1 1,.slice (some ⟨N+1,0,none⟩) 1 1]) exP):=Lib.hid (exP_mod b0 b1)
  have HVM:Hid (VMod w4 (.agg #[.slice (some ⟨N+1+1+1,0,none⟩) 1 1]) [exP]):=Lib.hid (by
    obtain ⟨Ar,cr,Ab,cb,e,g1,g2,g3,g4⟩:=HV.out;simp only [Value.agg.injEq,Array.mk.injEq,List.cons.injEq,Value.slice.injEq,and_true,true_and] at e;obtain ⟨-,-,⟨rfl,-,rfl⟩,rfl,-,rfl⟩:=e;refine ⟨_,1,rfl,Nat.le_refl _,⟨by unfold maxLen;omega,fun e=>by cases e⟩,fun _=>⟨N+1+1+1,0,rfl,fun i x hi=>?_⟩⟩
    match i,hi with
    | 0,hi =>
      obtain rfl:=Option.some.inj hi
      exact ⟨⟨q7 b3 0,g3⟩,⟨q7 b3 1,g4⟩,⟨_,_,q7 b3 2,g1⟩,_,_,q7 b3 3,g2⟩)
  have HBEL:=Lib.hid (show Below w.heap.size w w4 from by first | exact hbel | (rw [hN] at hbel;exact hbel))
  have HFO:=Lib.hid (form_any HOI.out [exP] 0 _ w4 HVM.out ⟨by decide,fun f hf=>by
    obtain rfl:=List.mem_singleton.1 hf;refine ⟨by decide,by decide,by decide,fun b hb=>?_⟩;obtain rfl:=List.mem_singleton.1 hb
    exact ⟨by decide,by decide,by decide,fun x hx=>(by cases hx),fun x hx=>(by cases hx)⟩⟩ (HG.out.keep (q6 HBEL.out)))
  clear hN hsz hbel b0 b1 b2 b3;refine HFO.out.mono ?_;rintro e w5 ⟨⟨ve,rfl,hc⟩,hb5⟩;rw [exP_form] at hc;obtain rfl:=hc.nil rfl;have HB5:Hid (Below w.heap.size w w5):=Lib.hid (HBEL.out.trans (hb5.mono HBEL.out.size));(have HBE:=Lib.hid (form_any HOI.out [] 0 (.agg #[.slice none 0 0]) w5 ⟨none,0,rfl,Nat.le_refl _,⟨by unfold maxLen;omega,fun _=>rfl⟩,fun hp=>absurd hp (by simp)⟩ ⟨by decide,fun f hf=>(by cases hf)⟩ (HG.out.keep (q6 HB5.out))));clear hc hb5 HFO;go_wp2_with fail
  refine HBE.out.mono ?_;rintro e w7 ⟨⟨ve,rfl,hc⟩,hb7⟩;rw [noP_form] at hc;obtain rfl:ve=.iface 39 (.int .i64 1):=by
    rcases hc with ⟨h,-⟩ | ⟨-,-,h⟩ | ⟨-,h,-⟩
    · exact absurd h (by decide)
    · exact h
    · exact absurd h (by decide)
  have HB7:Hid (Below w.heap.size w w7):=Lib.hid (HB5.out.trans (hb7.mono HB5.out.size));have hq:=eqlErr 1 1 w7;clear hc hb7 HBE;(go_wp2_with fail);(go_ret);exact ⟨rfl,HB7.out⟩
end Go.Proofs.YtfoggldjjnabcaaGreatDoor
