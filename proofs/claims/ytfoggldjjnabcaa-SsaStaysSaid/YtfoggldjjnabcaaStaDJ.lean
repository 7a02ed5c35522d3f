/- The reference's Same: two modules are the same. -/
import Derived.Test.YtfoggldjjnabcaaModAJ
import Derived.Deep.QuietTactic
import Derived.BigQuiet
import Derived.StillTailTactics
import Derived.LaidEql
import Derived.Test.YtfoggldjjnabcaaSpAJ
import Derived.Test.YtfoggldjjnabcaaGrJJ
import Derived.Test.YtfoggldjjnabcaaDmTJ
namespace Go.Proofs.Ytfoggldjjnabcaa
open Go.ChangeShapes Go.WideShapes Go.RowKit Go.Deep
set_option linter.unusedVariables false
theorem take_len_eq {α:Type} {a b:List α} {k:Nat} (h:a.take k=b.take k) (ha:a.length≤k) (hb:b.length≤k):a=b:=by
  rwa [List.take_of_length_le ha,List.take_of_length_le hb] at h
theorem take_snoc_eq {α:Type} {a b:List α} {k:Nat} {x y:α} (h:a.take k=b.take k) (hx:a[k]?=some x) (hy:b[k]?=some y) (e:x=y):a.take (k+1)=b.take (k+1):=by
  rw [qC hx,qC hy,h,e]
theorem ne_at {α:Type} {a b:List α} {k:Nat} {x y:α} (hx:a[k]?=some x) (hy:b[k]?=some y) (e:x≠y):a≠b:=fun h=>by
  subst h;exact e (Option.some.inj (hx.symm.trans hy))
open Classical in
noncomputable def same {α:Type} (a b:α):Bool:=decide (a=b)
open Classical in
theorem qr {α:Type} {a b:α} (h:a=b):same a b=true:=decide_eq_true h
open Classical in
theorem qh {α:Type} {a b:α} (h:a≠b):same a b=false:=decide_eq_false h
open Classical in
theorem same_iff {α:Type} {a b:α}:same a b=true↔a=b:=decide_eq_true_iff
set_option maxRecDepth 100000 in
set_option maxHeartbeats 4000000 in
theorem ints_any (a b:List Int) (v u:Value) (w:World) (hv:VS w 1 RInt v a) (hu:VS w 1 RInt u b) :
    Calls Try.prog 21 #[v,u] w fun e w'=>e=.returned (.bool (same a b))∧∃ n,w'=w.drewN n:=by
  obtain ⟨A,c,rfl,ha⟩:=hv;obtain ⟨B,d,rfl,hb⟩:=hu;have hal:=ha.len;have hbl:=hb.len
  by_cases hl:a.length=b.length
  · (have hl':((a.length:Int) != b.length)=false:=by simp [hl]);have HL:=Lib.hid hl;clear hl;(go_enter Try.func21,Try.ntmps21);go_wp2_with fail
    go_loopw [5] (fun i wr=>∃ k n:Nat,k≤a.length∧i=.int .i64 k∧wr=w.drewN n∧Hid (a.take k=b.take k)) (fun i _=>a.length - (intOf i).toNat)
    case atStart=>exact ⟨0,0,Nat.zero_le _,rfl,rfl,Lib.hid rfl⟩
    case round =>
      obtain ⟨k,n,hk,rfl,rfl,hi⟩:=hrel
      by_cases hlt:k<a.length
      · (have hlt2:k<b.length:=by have:=HL.out;omega);obtain ⟨b1,o1,x,rfl,hx,hxc,-⟩:=ha.int hlt;obtain ⟨b2,o2,y,rfl,hy,hyc,-⟩:=hb.int hlt2;(have hk0:(0:Int)≤k:=by omega);(have hk1:(k:Int)<a.length:=by omega);have hk2:(k:Int)<b.length:=by omega
        by_cases hxy:x=y
        · (have hxy':(x != y)=false:=by simp [hxy]);have HXY:=Lib.hid hxy;clear hxy;(go_wp2_with fail);(go_quiet (fail));go_wp2_with fail
          go_roundw
          case rel=>exact ⟨k+1,_,by omega,by go_num,rfl,Lib.hid (take_snoc_eq hi.out hx.out hy.out HXY.out)⟩
          case measure=>simp [intOf];omega
        · (have hxy':(x != y)=true:=by rw [bne_iff_ne];exact hxy);have HXY:=Lib.hid hxy;clear hxy;(go_wp2_with fail);(go_quiet (fail));(go_wp2_with fail);(go_ret);exact ⟨by rw [qh (ne_at hx.out hy.out HXY.out)];rfl,_,World.drewN_drewN _ _ _⟩
      · (have HE:=Lib.hid (take_len_eq hi.out (Nat.le_of_not_lt hlt) (by have:=HL.out;omega)));(go_wp2_with fail);(go_ret);exact ⟨by rw [qr HE.out];rfl,_,rfl⟩
  · (have hl':((a.length:Int) != b.length)=true:=by rw [bne_iff_ne];omega);have HL:Hid (same a b=false):=Lib.hid (qh (fun e=>hl (by rw [e])));clear hl;(go_enter Try.func21,Try.ntmps21);(go_wp2_with fail);(go_ret);exact ⟨by rw [HL.out];rfl,0,rfl⟩
theorem kept_drewN (w:World) (n:Nat):Kept w (w.drewN n):=fun _ _ h=>h
theorem phi_ext {p q:PhiD} (h1:p.dst=q.dst) (h2:p.args=q.args):p=q:=by cases p;cases q;simp_all
theorem ins_ext {p q:InsD} (h1:p.op=q.op) (h2:p.dst=q.dst) (h3:p.args=q.args) (h4:p.imm=q.imm) (h5:p.fn=q.fn):p=q:=by cases p;cases q;simp_all
theorem blk_ext {p q:BlkD} (h1:p.phis=q.phis) (h2:p.ins=q.ins) (h3:p.term.kind=q.term.kind) (h4:p.term.arg=q.term.arg) (h5:p.term.to=q.term.to):p=q:=by
  obtain ⟨a,b,c,d,e⟩:=p;obtain ⟨a',b',c',d',e'⟩:=q;simp_all
theorem fun_ext {p q:FunD} (h1:p.params=q.params) (h2:p.result=q.result) (h3:p.regs=q.regs) (h4:p.blocks=q.blocks):p=q:=by cases p;cases q;simp_all
set_option maxRecDepth 100000 in
set_option maxHeartbeats 8000000 in
theorem sameBlock_any (x y:BlkD) (v u:Value) (w:World) (hv:VBlk w v x) (hu:VBlk w u y) :
    Calls Try.prog 22 #[v,u] w fun e w'=>e=.returned (.bool (same x y))∧Below w.heap.size w w':=by
  obtain ⟨Ap,cp,Ai,ci,At,ct,rfl,hp,hi,ht,hk64,ha64⟩:=hv;obtain ⟨Bp,dp,Bi,di,Bt,dt,rfl,kp,ki,kt,kk64,ka64⟩:=hu;have hpl:=hp.len;have hil:=hi.len;have htl:=ht.len;have kpl:=kp.len;have kil:=ki.len;have ktl:=kt.len
  have hB:Below w.heap.size w ((w.alloc (.cells #[.slice Ap x.phis.length cp,.slice Ai x.ins.length ci,.int .i64 x.term.kind,.int .i64 x.term.arg,.slice At x.term.to.length ct] 43)).alloc
      (.cells #[.slice Bp y.phis.length dp,.slice Bi y.ins.length di,.int .i64 y.term.kind,.int .i64 y.term.arg,.slice Bt y.term.to.length dt] 43)):=((Below.refl _ _).alloc (Nat.le_refl _) _).alloc (by simp) _
  have hK:=q6 hB
  by_cases e1:x.phis.length=y.phis.length
  · have e1':((x.phis.length:Int) != y.phis.length)=false:=by simp [e1]
    by_cases e2:x.ins.length=y.ins.length
    · have e2':((x.ins.length:Int) != y.ins.length)=false:=by simp [e2]
      by_cases e3:x.term.kind=y.term.kind
      · have e3':(x.term.kind != y.term.kind)=false:=by simp [e3]
        by_cases e4:x.term.arg=y.term.arg
        · (have e4':(x.term.arg != y.term.arg)=false:=by simp [e4]);have E:=Lib.hid (And.intro e1 (And.intro e2 (And.intro e3 e4)));clear e1 e2 e3 e4;(go_enter Try.func22,Try.ntmps22);(go_wp2_with fail);obtain ⟨w1,hw1⟩:∃ w1,w1=(w.alloc (.cells #[.slice Ap x.phis.length cp,.slice Ai x.ins.length ci,.int .i64 x.term.kind,.int .i64 x.term.arg,.slice At x.term.to.length ct] 43)).alloc
            (.cells #[.slice Bp y.phis.length dp,.slice Bi y.ins.length di,.int .i64 y.term.kind,.int .i64 y.term.arg,.slice Bt y.term.to.length dt] 43):=⟨_,rfl⟩
          (have gx0:w1.cell? ⟨w.heap.size,0,none⟩=some (.slice Ap x.phis.length cp):=by rw [hw1];simp);(have gx1:w1.cell? ⟨w.heap.size,1,none⟩=some (.slice Ai x.ins.length ci):=by rw [hw1];simp);(have gy0:w1.cell? ⟨w.heap.size+1,0,none⟩=some (.slice Bp y.phis.length dp):=by rw [hw1];simp);(have gy1:w1.cell? ⟨w.heap.size+1,1,none⟩=some (.slice Bi y.ins.length di):=by rw [hw1];simp);(have hs1:w.heap.size+1<w1.heap.size:=by rw [hw1];simp);rw [← hw1] at hB hK ⊢;clear hw1;refine (ints_any x.term.to y.term.to _ _ _ ⟨At,ct,rfl,SInts.keep hK ht⟩ ⟨Bt,dt,rfl,SInts.keep hK kt⟩).mono ?_;rintro e w' ⟨rfl,n0,rfl⟩
          cases hto:same x.term.to y.term.to
          · (have E2:Hid (same x y=false):=Lib.hid (qh (fun e=>by have:=qr (show x.term.to=y.term.to by rw [e]);rw [hto] at this;cases this)));clear hto;(go_wp2_with fail);(go_ret);exact ⟨by rw [E2.out];rfl,below_drewN hB _⟩
          · have HTO:=Lib.hid (same_iff.1 hto);clear hto;(go_wp2_with fail);have hb0:Below w1.heap.size w1 (w1.drewN n0):=below_drewN (Below.refl _ _) _
            go_loopw [5] (fun i wr=>∃ k:Nat,k≤x.phis.length∧i=.int .i64 k∧Below w1.heap.size w1 wr∧Hid (x.phis.take k=y.phis.take k)) (fun i _=>x.phis.length - (intOf i).toNat)
            case atStart=>exact ⟨0,Nat.zero_le _,rfl,hb0,Lib.hid rfl⟩
            case round =>
              obtain ⟨k,hk,rfl,hbel,hi2⟩:=hrel;have hkr:Kept w1 wr:=q6 hbel;have hx0:=hkr _ _ gx0;have hx1:=hkr _ _ gx1;have hy0:=hkr _ _ gy0;have hy1:=hkr _ _ gy1;have hBr:Below w.heap.size w wr:=hB.trans (hbel.mono hB.size)
              by_cases hlt:k<x.phis.length
              · (have hlt2:k<y.phis.length:=by have:=E.out.1;omega);obtain ⟨b1,o1,p,rfl,hp1,⟨hpd,-⟩,Aa,ca,hpa,hpas⟩:=(SPhis.keep (hK.trans hkr) hp).at_ hlt;obtain ⟨b2,o2,q,rfl,hq1,⟨hqd,-⟩,Ba,da,hqa,hqas⟩:=(SPhis.keep (hK.trans hkr) kp).at_ hlt2;(have hk0:(0:Int)≤k:=by omega);(have hk1:(k:Int)<x.phis.length:=by omega);have hk2:(k:Int)<y.phis.length:=by omega
                by_cases hd:p.dst=q.dst
                · (have hd':(p.dst != q.dst)=false:=by simp [hd]);have HD:=Lib.hid hd;clear hd;have hcall:∀ j,Calls Try.prog 21 #[.slice Aa p.args.length ca,.slice Ba q.args.length da] (wr.drewN j) fun e w'=>e=.returned (.bool (same p.args q.args))∧∃ m,w'=(wr.drewN j).drewN m:=fun j =>
                    ints_any _ _ _ _ _ ⟨Aa,ca,rfl,SInts.keep (kept_drewN _ _) hpas⟩ ⟨Ba,da,rfl,SInts.keep (kept_drewN _ _) hqas⟩
                  cases hs:same p.args q.args
                  · rw [hs] at hcall;(have E2:Hid (same x y=false):=Lib.hid (qh (fun e=>ne_at hp1.out hq1.out (fun e2=>by have:=qr (show p.args=q.args by rw [e2]);rw [hs] at this;cases this) (by rw [e]))));have HC:=Lib.hid hcall;clear hs hcall;(go_wp2_with fail);(go_quiet ((go_at_call 21;exact Calls.quiet_of (HC.out _))));(go_wp2_with fail);(go_ret);exact ⟨by rw [E2.out];rfl,below_drewN hBr _⟩
                  · rw [hs] at hcall;have HS:=Lib.hid (same_iff.1 hs);have HC:=Lib.hid hcall;clear hs hcall;(go_wp2_with fail);(go_quiet ((go_at_call 21;exact Calls.quiet_of (HC.out _))));go_wp2_with fail
                    go_roundw
                    case rel=>exact ⟨k+1,by omega,by go_num,below_drewN hbel _,Lib.hid (take_snoc_eq hi2.out hp1.out hq1.out (phi_ext HD.out HS.out))⟩
                    case measure=>simp [intOf];omega
                · (have hd':(p.dst != q.dst)=true:=by rw [bne_iff_ne];exact hd);have E2:Hid (same x y=false):=Lib.hid (qh (fun e=>ne_at hp1.out hq1.out (fun e2=>hd (by rw [e2])) (by rw [e])));clear hd;(go_wp2_with fail);(go_quiet (fail));(go_wp2_with fail);(go_ret);exact ⟨by rw [E2.out];rfl,below_drewN hBr _⟩
              · (have HP:=Lib.hid (take_len_eq hi2.out (Nat.le_of_not_lt hlt) (by have:=E.out.1;omega)));clear hi2;have hb1:=hbel;go_wp2_with fail
                go_loopw [6] (fun i wr=>∃ k:Nat,k≤x.ins.length∧i=.int .i64 k∧Below w1.heap.size w1 wr∧Hid (x.ins.take k=y.ins.take k)) (fun i _=>x.ins.length - (intOf i).toNat)
                case atStart=>exact ⟨0,Nat.zero_le _,rfl,hb1,Lib.hid rfl⟩
                case round =>
                  obtain ⟨k,hk,rfl,hbel,hi3⟩:=hrel;have hkr:Kept w1 wr:=q6 hbel;have hx0:=hkr _ _ gx0;have hx1:=hkr _ _ gx1;have hy0:=hkr _ _ gy0;have hy1:=hkr _ _ gy1;have hBr:Below w.heap.size w wr:=hB.trans (hbel.mono hB.size)
                  by_cases hlt:k<x.ins.length
                  · (have hlt2:k<y.ins.length:=by have:=E.out.2.1;omega);obtain ⟨b1,o1,p,rfl,hp1,⟨hp0,-⟩,⟨hpd,-⟩,⟨Aa,ca,hpa,hpas⟩,⟨hpi,-⟩,⟨hpf,-⟩⟩:=(SInss.keep (hK.trans hkr) hi).at_ hlt;obtain ⟨b2,o2,q,rfl,hq1,⟨hq0,-⟩,⟨hqd,-⟩,⟨Ba,da,hqa,hqas⟩,⟨hqi,-⟩,⟨hqf,-⟩⟩:=(SInss.keep (hK.trans hkr) ki).at_ hlt2;have hbk1:=block_lt_of_cell hx1;have hbk2:=block_lt_of_cell hy1;have hbk3:=block_lt_of_cell hqd;dsimp only at hbk1 hbk2 hbk3;(have hn1:w.heap.size+1≠wr.heap.size:=by omega);have hn2:b2≠wr.heap.size:=by omega
                    by_cases f1:p.op=q.op
                    · have f1':(p.op != q.op)=false:=by simp [f1]
                      by_cases f2:p.dst=q.dst
                      · (have f2':(p.dst != q.dst)=false:=by simp [f2]);have F:=Lib.hid (And.intro f1 f2);clear f1 f2;(go_wp2_with fail);obtain ⟨w3,hw3⟩:∃ w3,w3=(wr.alloc (.cells #[.int .i64 p.op,.int .i64 p.dst,.slice Aa p.args.length ca,.int .i64 p.imm,.int .i64 p.fn] 45)).alloc (.cells #[.int .i64 q.op,.int .i64 q.dst,.slice Ba q.args.length da,.int .i64 q.imm,.int .i64 q.fn] 45):=⟨_,rfl⟩;(have hb3:Below wr.heap.size wr w3:=by rw [hw3];exact ((Below.refl _ _).alloc (Nat.le_refl _) _).alloc (by simp) _);(have ji:w3.cell? ⟨wr.heap.size,3,none⟩=some (.int .i64 p.imm):=by rw [hw3];simp);(have jf:w3.cell? ⟨wr.heap.size,4,none⟩=some (.int .i64 p.fn):=by rw [hw3];simp);have li:w3.cell? ⟨wr.heap.size+1,3,none⟩=some (.int .i64 q.imm):=by rw [hw3];simp
                        (have lf:w3.cell? ⟨wr.heap.size+1,4,none⟩=some (.int .i64 q.fn):=by rw [hw3];simp);have hk3:=q6 hb3;have hB3:Below w.heap.size w w3:=hBr.trans (hb3.mono hBr.size);have hb3':Below w1.heap.size w1 w3:=hbel.trans (hb3.mono hbel.size);rw [← hw3];clear hw3;refine (ints_any p.args q.args _ _ _ ⟨Aa,ca,rfl,SInts.keep hk3 hpas⟩ ⟨Ba,da,rfl,SInts.keep hk3 hqas⟩).mono ?_;rintro e w' ⟨rfl,n1,rfl⟩;cases hs:same p.args q.args
                        · (have E2:Hid (same x y=false):=Lib.hid (qh (fun e=>ne_at hp1.out hq1.out (fun e2=>by have:=qr (show p.args=q.args by rw [e2]);rw [hs] at this;cases this) (by rw [e]))));clear hs;(go_wp2_with fail);(go_ret);exact ⟨by rw [E2.out];rfl,below_drewN hB3 _⟩
                        · have HS:=Lib.hid (same_iff.1 hs);clear hs
                          by_cases f3:p.imm=q.imm
                          · have f3':(p.imm != q.imm)=false:=by simp [f3]
                            by_cases f4:p.fn=q.fn
                            · (have f4':(p.fn != q.fn)=false:=by simp [f4]);have F2:=Lib.hid (And.intro f3 f4);clear f3 f4;go_wp2_with fail
                              go_roundw
                              case rel=>exact ⟨k+1,by omega,by go_num,below_drewN hb3' _,Lib.hid (take_snoc_eq hi3.out hp1.out hq1.out (ins_ext F.out.1 F.out.2 HS.out F2.out.1 F2.out.2))⟩
                              case measure=>simp [intOf];omega
                            · (have f4':(p.fn != q.fn)=true:=by rw [bne_iff_ne];exact f4);have E2:Hid (same x y=false):=Lib.hid (qh (fun e=>ne_at hp1.out hq1.out (fun e2=>f4 (by rw [e2])) (by rw [e])));clear f3 f4;(go_wp2_with fail);(go_ret);exact ⟨by rw [E2.out];rfl,below_drewN hB3 _⟩
                          · (have f3':(p.imm != q.imm)=true:=by rw [bne_iff_ne];exact f3);have E2:Hid (same x y=false):=Lib.hid (qh (fun e=>ne_at hp1.out hq1.out (fun e2=>f3 (by rw [e2])) (by rw [e])));clear f3;(go_wp2_with fail);(go_ret);exact ⟨by rw [E2.out];rfl,below_drewN hB3 _⟩
                      · (have f2':(p.dst != q.dst)=true:=by rw [bne_iff_ne];exact f2);have E2:Hid (same x y=false):=Lib.hid (qh (fun e=>ne_at hp1.out hq1.out (fun e2=>f2 (by rw [e2])) (by rw [e])));clear f1 f2;(go_wp2_with fail);(go_ret);exact ⟨by rw [E2.out];rfl,(hBr.alloc (by have:=hBr.size;omega) _).alloc (by have:=hBr.size;simp;omega) _⟩
                    · (have f1':(p.op != q.op)=true:=by rw [bne_iff_ne];exact f1);have E2:Hid (same x y=false):=Lib.hid (qh (fun e=>ne_at hp1.out hq1.out (fun e2=>f1 (by rw [e2])) (by rw [e])));clear f1;(go_wp2_with fail);(go_ret);exact ⟨by rw [E2.out];rfl,(hBr.alloc (by have:=hBr.size;omega) _).alloc (by have:=hBr.size;simp;omega) _⟩
                  · (have HI:=Lib.hid (take_len_eq hi3.out (Nat.le_of_not_lt hlt) (by have:=E.out.2.1;omega)));(go_wp2_with fail);(go_ret);exact ⟨by rw [qr (blk_ext HP.out HI.out E.out.2.2.1 E.out.2.2.2 HTO.out)];rfl,hBr⟩
        · (have e4':(x.term.arg != y.term.arg)=true:=by rw [bne_iff_ne];exact e4);have E:Hid (same x y=false):=Lib.hid (qh (fun e=>e4 (by rw [e])));clear e1 e2 e3 e4;(go_enter Try.func22,Try.ntmps22);(go_wp2_with fail);(go_ret);exact ⟨by rw [E.out];rfl,hB⟩
      · (have e3':(x.term.kind != y.term.kind)=true:=by rw [bne_iff_ne];exact e3);have E:Hid (same x y=false):=Lib.hid (qh (fun e=>e3 (by rw [e])));clear e1 e2 e3;(go_enter Try.func22,Try.ntmps22);(go_wp2_with fail);(go_ret);exact ⟨by rw [E.out];rfl,hB⟩
    · (have e2':((x.ins.length:Int) != y.ins.length)=true:=by rw [bne_iff_ne];omega);have E:Hid (same x y=false):=Lib.hid (qh (fun e=>e2 (by rw [e])));clear e1 e2;(go_enter Try.func22,Try.ntmps22);(go_wp2_with fail);(go_ret);exact ⟨by rw [E.out];rfl,hB⟩
  · (have e1':((x.phis.length:Int) != y.phis.length)=true:=by rw [bne_iff_ne];omega);have E:Hid (same x y=false):=Lib.hid (qh (fun e=>e1 (by rw [e])));clear e1;(go_enter Try.func22,Try.ntmps22);(go_wp2_with fail);(go_ret);exact ⟨by rw [E.out];rfl,hB⟩
set_option maxRecDepth 100000 in
set_option maxHeartbeats 8000000 in
theorem sameFunc_any (x y:FunD) (v u:Value) (w:World) (hv:VFun w v x) (hu:VFun w u y) :
    Calls Try.prog 11 #[v,u] w fun e w'=>e=.returned (.bool (same x y))∧Below w.heap.size w w':=by
  obtain ⟨Ar,cr,Ab,cb,rfl,hr,hb,-,-⟩:=hv;obtain ⟨Br,dr,Bb,db,rfl,kr,kb,-,-⟩:=hu;have hrl:=hr.len;have hbl:=hb.len;have krl:=kr.len;have kbl:=kb.len
  have hB:Below w.heap.size w ((w.alloc (.cells #[.int .i64 x.params,.int .i64 x.result,.slice Ar x.regs.length cr,.slice Ab x.blocks.length cb] 31)).alloc
      (.cells #[.int .i64 y.params,.int .i64 y.result,.slice Br y.regs.length dr,.slice Bb y.blocks.length db] 31)):=((Below.refl _ _).alloc (Nat.le_refl _) _).alloc (by simp) _
  have hK:=q6 hB
  by_cases e1:x.params=y.params
  · have e1':(x.params != y.params)=false:=by simp [e1]
    by_cases e2:x.result=y.result
    · (have e2':(x.result != y.result)=false:=by simp [e2]);have E:=Lib.hid (And.intro e1 e2);clear e1 e2;(go_enter Try.func11,Try.ntmps11);(go_wp2_with fail);obtain ⟨w1,hw1⟩:∃ w1,w1=(w.alloc (.cells #[.int .i64 x.params,.int .i64 x.result,.slice Ar x.regs.length cr,.slice Ab x.blocks.length cb] 31)).alloc
        (.cells #[.int .i64 y.params,.int .i64 y.result,.slice Br y.regs.length dr,.slice Bb y.blocks.length db] 31):=⟨_,rfl⟩
      (have gx3:w1.cell? ⟨w.heap.size,3,none⟩=some (.slice Ab x.blocks.length cb):=by rw [hw1];simp);(have gy3:w1.cell? ⟨w.heap.size+1,3,none⟩=some (.slice Bb y.blocks.length db):=by rw [hw1];simp);rw [← hw1] at hB hK ⊢;clear hw1;refine (ints_any x.regs y.regs _ _ _ ⟨Ar,cr,rfl,SInts.keep hK hr⟩ ⟨Br,dr,rfl,SInts.keep hK kr⟩).mono ?_;rintro e w' ⟨rfl,n0,rfl⟩;cases hrg:same x.regs y.regs
      · (have E2:Hid (same x y=false):=Lib.hid (qh (fun e=>by have:=qr (show x.regs=y.regs by rw [e]);rw [hrg] at this;cases this)));clear hrg;(go_wp2_with fail);(go_ret);exact ⟨by rw [E2.out];rfl,below_drewN hB _⟩
      · have HRG:=Lib.hid (same_iff.1 hrg);clear hrg
        by_cases e3:x.blocks.length=y.blocks.length
        · (have e3':((x.blocks.length:Int) != y.blocks.length)=false:=by simp [e3]);have E3:=Lib.hid e3;clear e3;(go_wp2_with fail);have hb0:Below w1.heap.size w1 (w1.drewN n0):=below_drewN (Below.refl _ _) _
          go_loopw [5] (fun i wr=>∃ k:Nat,k≤x.blocks.length∧i=.int .i64 k∧Below w1.heap.size w1 wr∧Hid (x.blocks.take k=y.blocks.take k)) (fun i _=>x.blocks.length - (intOf i).toNat)
          case atStart=>exact ⟨0,Nat.zero_le _,rfl,hb0,Lib.hid rfl⟩
          case round =>
            obtain ⟨k,hk,rfl,hbel,hi2⟩:=hrel;have hkr:Kept w1 wr:=q6 hbel;have hx3:=hkr _ _ gx3;have hy3:=hkr _ _ gy3;have hBr:Below w.heap.size w wr:=hB.trans (hbel.mono hB.size)
            by_cases hlt:k<x.blocks.length
            · (have hlt2:k<y.blocks.length:=by have:=E3.out;omega);obtain ⟨b1,o1,p,rfl,hp1,⟨A1,c1,h1,g1⟩,⟨A2,c2,h2,g2⟩,⟨h3,i3⟩,⟨h4,i4⟩,A5,c5,h5,g5⟩:=(SBlks.keep (hK.trans hkr) hb).at_ hlt;obtain ⟨b2,o2,q,rfl,hq1,⟨B1,d1,k1,j1⟩,⟨B2,d2,k2,j2⟩,⟨k3,l3⟩,⟨k4,l4⟩,B5,d5,k5,j5⟩:=(SBlks.keep (hK.trans hkr) kb).at_ hlt2;(have hk0:(0:Int)≤k:=by omega);(have hk1:(k:Int)<x.blocks.length:=by omega);(have hk2:(k:Int)<y.blocks.length:=by omega);(go_wp2_with fail);(go_still_tail 10,(by kernel_rfl));change wpList _ _ _ _ _ wr.drew
              have hvp:VBlk wr.drew (.agg #[.slice A1 p.phis.length c1,.slice A2 p.ins.length c2,.int .i64 p.term.kind,.int .i64 p.term.arg,.slice A5 p.term.to.length c5]) p:=⟨A1,c1,A2,c2,A5,c5,rfl,g1,g2,g5,i3,i4⟩;have hvq:VBlk wr.drew (.agg #[.slice B1 q.phis.length d1,.slice B2 q.ins.length d2,.int .i64 q.term.kind,.int .i64 q.term.arg,.slice B5 q.term.to.length d5]) q:=⟨B1,d1,B2,d2,B5,d5,rfl,j1,j2,j5,l3,l4⟩;have hbd:Below w1.heap.size w1 wr.drew:=hbel.drew;have hBd:Below w.heap.size w wr.drew:=hBr.drew;generalize wr.drew=w2 at *;(go_wp2_with fail);refine (sameBlock_any p q _ _ _ hvp hvq).mono ?_;rintro e w3 ⟨rfl,hb3⟩;have hb3':Below w1.heap.size w1 w3:=hbd.trans (hb3.mono hbd.size)
              have hB3:Below w.heap.size w w3:=hBd.trans (hb3.mono hBd.size);cases hs:same p q
              · (have E2:Hid (same x y=false):=Lib.hid (qh (fun e=>ne_at hp1.out hq1.out (fun e2=>by have:=qr e2;rw [hs] at this;cases this) (by rw [e]))));clear hs;(go_wp2_with fail);(go_ret);exact ⟨by rw [E2.out];rfl,hB3⟩
              · have HS:=Lib.hid (same_iff.1 hs);clear hs;go_wp2_with fail
                go_roundw
                case rel=>exact ⟨k+1,by omega,by go_num,hb3',Lib.hid (take_snoc_eq hi2.out hp1.out hq1.out HS.out)⟩
                case measure=>simp [intOf];omega
            · (have HP:=Lib.hid (take_len_eq hi2.out (Nat.le_of_not_lt hlt) (by have:=E3.out;omega)));(go_wp2_with fail);(go_ret);exact ⟨by rw [qr (fun_ext E.out.1 E.out.2 HRG.out HP.out)];rfl,hBr⟩
        · (have e3':((x.blocks.length:Int) != y.blocks.length)=true:=by rw [bne_iff_ne];omega);have E2:Hid (same x y=false):=Lib.hid (qh (fun e=>e3 (by rw [e])));clear e3;(go_wp2_with fail);(go_ret);exact ⟨by rw [E2.out];rfl,below_drewN hB _⟩
    · (have e2':(x.result != y.result)=true:=by rw [bne_iff_ne];exact e2);have E:Hid (same x y=false):=Lib.hid (qh (fun e=>e2 (by rw [e])));clear e1 e2;(go_enter Try.func11,Try.ntmps11);(go_wp2_with fail);(go_ret);exact ⟨by rw [E.out];rfl,hB⟩
  · (have e1':(x.params != y.params)=true:=by rw [bne_iff_ne];exact e1);have E:Hid (same x y=false):=Lib.hid (qh (fun e=>e1 (by rw [e])));clear e1;(go_enter Try.func11,Try.ntmps11);(go_wp2_with fail);(go_ret);exact ⟨by rw [E.out];rfl,hB⟩
end Go.Proofs.Ytfoggldjjnabcaa

namespace Go.Proofs.Ytfoggldjjnabcaa
section
variable {P:Program} (w:World)
theorem run_equalIn_iface_int (d:Nat) {ti tn:TypeId} {ms:Array (String × TypeId)} {i:TypeInfo} {k:IntKind} (a b:Int)
    (hi:P.underlying ti=some (.interface ms)) (hn:P.underlying tn=some (.int k)) (hinfo:P.info? tn=some i) (hcomp:i.comparable=true) :
    (Op.equalIn (d+2) ti (.iface tn (.int k a)) (.iface tn (.int k b))).run P w=.ok (a == b) w:=by
  simp [Op.equalIn,run_underlying hi,run_underlying hn,typeInfo,hinfo,hcomp]
theorem run_eql_iface_int {ti tn:TypeId} {ms:Array (String × TypeId)} {i:TypeInfo} {k:IntKind} (a b:Int)
    (hi:P.underlying ti=some (.interface ms)) (hn:P.underlying tn=some (.int k)) (hinfo:P.info? tn=some i) (hcomp:i.comparable=true) :
    (binOp .eql ti (.iface tn (.int k a)) (.iface tn (.int k b))).run P w=.ok (.bool (a == b)) w:=by
  simp only [binOp];simp [Op.equal,Op.maxDepth,run_equalIn_iface_int w 9998 a b hi hn hinfo hcomp]
end
end Go.Proofs.Ytfoggldjjnabcaa

namespace Go.Proofs.Ytfoggldjjnabcaa
open Go.ChangeShapes Go.WideShapes Go.RowKit Go.Deep
set_option linter.unusedVariables false
theorem codeInfo:Try.prog.info? 50=some ((Try.prog.info? 50).get!):=by kernel_rfl
theorem codeComp:((Try.prog.info? 50).get!).comparable=true:=by kernel_rfl
theorem eqlErr (x y:Int) (w:World):(binOp .eql 33 (.iface 50 (.int .i64 x)) (.iface 50 (.int .i64 y))).run Try.prog w=.ok (.bool (x == y)) w :=
  run_eql_iface_int w x y Try.underlying33 Try.underlying50 codeInfo codeComp
set_option linter.unusedSimpArgs false
theorem ex12_mod {w:World} {N:Nat} (b0:w.heap[N]?=some (.cells #[.int .i64 1] 3)) (b1:w.heap[N+1]?=some (.cells #[.slice none 0 0,.slice none 0 0,.int .i64 3,.int .i64 0,.slice none 0 0] 43)) :
    VFun w (.agg #[.int .i64 1,.int .i64 1,.slice (some ⟨N,0,none⟩) 1 1,.slice (some ⟨N+1,0,none⟩) 1 1]) ex12:=by
  (have i64:∀ z:Int,0≤z∧z≤10→I64 z:=fun z hz=>by unfold I64;omega);(have nil:∀ {α:Type} (sz:Nat) (R:World→Nat→Nat→α→Prop),SL w sz R none 0 []:=fun sz R=>⟨Nat.le_refl _,⟨by unfold maxLen;omega,fun _=>rfl⟩,fun hp=>absurd hp (by simp)⟩);refine ⟨some ⟨N,0,none⟩,1,some ⟨N+1,0,none⟩,1,rfl,⟨Nat.le_refl _,⟨by unfold maxLen;omega,fun e=>by cases e⟩,fun _=>⟨N,0,rfl,fun i x hi=>?_⟩⟩,⟨Nat.le_refl _,⟨by unfold maxLen;omega,fun e=>by cases e⟩,fun _=>⟨N+1,0,rfl,fun i x hi=>?_⟩⟩,i64 _ (by decide),i64 _ (by decide)⟩
  · match i,hi with
    | 0,hi=>obtain rfl:=Option.some.inj hi;exact ⟨q5 b0 0,i64 _ (by decide)⟩
  · match i,hi with
    | 0,hi =>
      obtain rfl:=Option.some.inj hi;exact ⟨⟨none,0,q5 b1 0,nil _ _⟩,⟨none,0,q5 b1 1,nil _ _⟩,⟨q5 b1 2,i64 _ (by decide)⟩,⟨q5 b1 3,i64 _ (by decide)⟩,⟨none,0,q5 b1 4,nil _ _⟩⟩
set_option maxRecDepth 100000 in
set_option maxHeartbeats 8000000 in
theorem up12_any (OI:OfIns) (w:World):Calls Try.prog 5 #[] w fun e w'=>e=.returned (.bool true)∧Below w.heap.size w w':=by
  have HOI:=Lib.hid OI;clear OI;(go_enter Try.func5,Try.ntmps5);(go_wp2_with fail);obtain ⟨w4,hw4,hsz,hbel,b0,b1,b2,b3⟩:=boxes4 w (.cells #[.int .i64 1] 3) (.cells #[.slice none 0 0,.slice none 0 0,.int .i64 3,.int .i64 0,.slice none 0 0] 43)
    (.cells #[.int .i64 1,.int .i64 1,.slice (some ⟨w.heap.size,0,none⟩) 1 1,.slice (some ⟨w.heap.size+1,0,none⟩) 1 1] 31) (.cells #[.int .i64 1,.int .i64 1,.slice (some ⟨w.heap.size,0,none⟩) 1 1,.slice (some ⟨w.heap.size+1,0,none⟩) 1 1] 31)
  rw [← hw4];clear hw4;obtain ⟨N,hN⟩:∃ N,N=w.heap.size:=⟨_,rfl⟩;rw [← hN] at hsz b0 b1 b2 b3 ⊢;have HV:Hid (VFun w4 (.agg #[.int .i64 1,.int .i64 1,.slice (some ⟨N,0,none⟩) 1 1,.slice (some ⟨N+1,0,none⟩) 1 1]) ex12):=Lib.hid (ex12_mod b0 b1)
  have HVM:Hid (VMod w4 (.agg #[.slice (some ⟨N+1+1+1,0,none⟩) 1 1]) [ex12]):=Lib.hid (by
    obtain ⟨Ar,cr,Ab,cb,e,g1,g2,g3,g4⟩:=HV.out;simp only [Value.agg.injEq,Array.mk.injEq,List.cons.injEq,Value.slice.injEq,and_true,true_and] at e;obtain ⟨-,-,⟨rfl,-,rfl⟩,rfl,-,rfl⟩:=e;refine ⟨_,1,rfl,Nat.le_refl _,⟨by unfold maxLen;omega,fun e=>by cases e⟩,fun _=>⟨N+1+1+1,0,rfl,fun i x hi=>?_⟩⟩
    match i,hi with
    | 0,hi =>
      obtain rfl:=Option.some.inj hi
      exact ⟨⟨q5 b3 0,g3⟩,⟨q5 b3 1,g4⟩,⟨_,_,q5 b3 2,g1⟩,_,_,q5 b3 3,g2⟩)
  have HBD:=Lib.hid (build_any HOI.out [ex12] 0 _ w4 HVM.out ⟨by decide,fun f hf=>by
    obtain rfl:=List.mem_singleton.1 hf;refine ⟨by decide,by decide,by decide,fun b hb=>?_⟩;obtain rfl:=List.mem_singleton.1 hb
    exact ⟨by decide,by decide,by decide,fun x hx=>(by cases hx),fun x hx=>(by cases hx)⟩⟩)
  have HB2:=Lib.hid b2;have HBEL:=Lib.hid hbel;have HSZ:Hid (N+1+1+1+1=w4.heap.size∧N=w.heap.size):=Lib.hid ⟨hsz,hN⟩;clear hN hsz hbel b0 b1 b2 b3;refine HBD.out.mono ?_;rintro e w5 ⟨⟨vf,ve,rfl,hc⟩,hb5⟩;obtain ⟨Ar,cr,Ab,cb,rfl,hve,hr,hb,-,-⟩:∃ Ar cr Ab cb,vf=.agg #[.int .i64 1,.int .i64 1,.slice Ar 1 cr,.slice Ab 1 cb]∧ve=.nilIface∧SL w5 1 RInt Ar cr ex12.regs∧SL w5 5 RBlk Ab cb ex12.blocks∧True∧True:=by
    rcases hc with ⟨h,-⟩ | ⟨-,h,-⟩ | ⟨-,n,f,hn,hf,h⟩
    · exact absurd ex12_plain h
    · exact absurd (by decide) h
    · (have hn0:n=0:=by omega);subst hn0;obtain rfl:=Option.some.inj hf;have hbd:bdF ex12=ex12:=ex12_bd;rw [hbd] at h;rcases h with ⟨h,-⟩ | ⟨-,h1,Ar,cr,Ab,cb,e,g1,g2,-,-⟩
      · exact absurd h (by decide)
      · exact ⟨Ar,cr,Ab,cb,e,h1,SL.imp (fun _ _ _ h=>h.2) g1,SL.imp (fun b o x h=>RBlkB.plain b o x h) g2,trivial,trivial⟩
  subst hve;have HR:=Lib.hid hr;have HK:=Lib.hid hb;have HB5:=Lib.hid hb5;clear hc hr hb hb5 HBD;(go_wp2_with fail);have hb56:Below w5.heap.size w5 (w5.alloc (.cells #[.int .i64 1,.int .i64 1,.slice Ar 1 cr,.slice Ab 1 cb] 31)):=(Below.refl _ _).alloc (Nat.le_refl _) _;have b6:(w5.alloc (.cells #[.int .i64 1,.int .i64 1,.slice Ar 1 cr,.slice Ab 1 cb] 31)).heap[w5.heap.size]?=some (.cells #[.int .i64 1,.int .i64 1,.slice Ar 1 cr,.slice Ab 1 cb] 31):=heap_alloc_new _ _;generalize w5.alloc (.cells #[.int .i64 1,.int .i64 1,.slice Ar 1 cr,.slice Ab 1 cb] 31)=w6 at *
  obtain ⟨N6,hN6⟩:∃ N6,N6=w5.heap.size:=⟨_,rfl⟩;rw [← hN6] at b6 ⊢;have HB56:=Lib.hid hb56;have HB6:=Lib.hid b6;have HN6:=Lib.hid hN6;(have HBE:=Lib.hid (build_any HOI.out [] 0 (.agg #[.slice none 0 0]) w6 ⟨none,0,rfl,Nat.le_refl _,⟨by unfold maxLen;omega,fun _=>rfl⟩,fun hp=>absurd hp (by simp)⟩ ⟨by decide,fun f hf=>(by cases hf)⟩));clear hN6 hb56 b6;refine HBE.out.mono ?_;rintro e w7 ⟨⟨vf,ve,rfl,hc⟩,hb7⟩
  obtain ⟨rfl,rfl⟩:vf=.agg #[.int .i64 0,.int .i64 0,.slice none 0 0,.slice none 0 0]∧ve=.iface 50 (.int .i64 1):=by
    rcases hc with ⟨h,-⟩ | ⟨-,-,h1,h2⟩ | ⟨-,n,f,hn,hf,h⟩
    · exact absurd (show (plainE []).1=0 from rfl) h
    · exact ⟨h1,h2⟩
    · simp at hf
  have HB7:=Lib.hid hb7;clear hc hb7 HBE;have hb67:Below w6.heap.size w6 (w7.alloc (.cells #[.int .i64 0,.int .i64 0,.slice none 0 0,.slice none 0 0] 31)):=HB7.out.alloc HB7.out.size _;obtain ⟨w8,hw8⟩:∃ w8,w8=w7.alloc (.cells #[.int .i64 0,.int .i64 0,.slice none 0 0,.slice none 0 0] 31):=⟨_,rfl⟩;rw [← hw8] at hb67;have b6:=(hb67.block N6 (qW HB6.out)).trans HB6.out;have hb48:Below w4.heap.size w4 w8:=HB5.out.trans ((HB56.out.trans (hb67.mono HB56.out.size)).mono HB5.out.size);have b2:=(hb48.block (N+1+1) (by have:=HSZ.out;omega)).trans HB2.out
  have HVA:Hid (VFun w8 (.agg #[.int .i64 1,.int .i64 1,.slice Ar 1 cr,.slice Ab 1 cb]) ex12):=Lib.hid (by
    obtain ⟨_,_,_,_,-,-,-,i1,i2⟩:=HV.out;have hk:=q6 (HB56.out.trans (hb67.mono HB56.out.size))
    exact ⟨Ar,cr,Ab,cb,rfl,SInts.keep hk HR.out,SBlks.keep hk HK.out,i1,i2⟩)
  have HVB:=Lib.hid (VFun.keep (q6 hb48) HV.out);have a0:=q5 b6 0;have a1:=q5 b6 1;have a2:=q5 b6 2;have a3:=q5 b6 3;have e0:=q5 b2 0;have e1:=q5 b2 1;have e2:=q5 b2 2;have e3:=q5 b2 3
  have H48:=Lib.hid hb48;have HSF:=Lib.hid (sameFunc_any ex12 ex12 _ _ w8 HVA.out HVB.out);have H8:=Lib.hid hw8;clear hb48 b2 b6 hb67 hw8;(go_upto_region 4 with fail);rw [← H8.out];(go_wp2_with fail);refine HSF.out.mono ?_;rintro e w9 ⟨rfl,hb9⟩
  have HB9:=Lib.hid hb9;rw [qr (rfl:ex12=ex12)];have hq:=eqlErr 1 1 w9;clear hb9;(go_wp2_with fail);(go_ret);exact ⟨rfl,HBEL.out.trans ((H48.out.trans (HB9.out.mono H48.out.size)).mono HBEL.out.size)⟩
def Says (p:Prop) (B:Nat) (w:World) (e:Ending) (w':World):Prop:=(∃ b:Bool,e=.returned (.bool b)∧(b=true→p))∧Below B w w'
theorem Says.no {p:Prop} {B:Nat} {w w':World} (h:Below B w w'):Says p B w (.returned (.bool false)) w':=⟨⟨false,rfl,fun h=>by cases h⟩,h⟩
set_option maxRecDepth 100000 in
set_option maxHeartbeats 4000000 in
theorem small_any (m:List FunD) (v:Value) (w:World) (hv:VMod w v m) :
    Calls Try.prog 6 #[v] w (Says (SmallM m) w.heap.size w):=by
  obtain ⟨A,c,rfl,hm⟩:=hv;have hml:=hm.len
  by_cases h40:40<m.length
  · (go_enter Try.func6,Try.ntmps6);(go_wp2_with fail);(go_ret);exact Says.no ((Below.refl _ _).alloc (Nat.le_refl _) _)
  · (go_enter Try.func6,Try.ntmps6);(go_wp2_with fail);obtain ⟨w1,hw1,hs1,hk1,hbel1,hc1,-⟩:=named w #[.slice A m.length c] 24;have hc1:=hc1 0 _ rfl;(have hs1:w.heap.size<w1.heap.size:=by omega);rw [← hw1];clear hw1
    go_loopw [3] (fun i wr=>∃ k:Nat,k≤m.length∧i=.int .i64 k∧Below w1.heap.size w1 wr∧Upto SmallF m k) (fun i _=>m.length - (intOf i).toNat)
    case atStart=>exact ⟨0,Nat.zero_le _,rfl,Below.refl _ _,Upto.zero⟩
    case round =>
      obtain ⟨k,hk,rfl,hbel,hup⟩:=hrel;obtain ⟨wo,rfl⟩:∃ wo,wo=wr:=⟨wr,rfl⟩;have hs:=hbel.size;have hkw:Kept w1 wo:=q6 hbel;have hbox:=hkw _ _ hc1;have hB:Below w.heap.size w wo:=hbel1.trans (hbel.mono (by omega))
      by_cases hlt:k<m.length
      · obtain ⟨b,o,f,rfl,hf,⟨hp,-⟩,⟨hr,-⟩,⟨Ar,cr,hreg,hregs⟩,⟨Ab,cb,hblk,hblks⟩⟩:=(SFuns.keep (hk1.trans hkw) hm).at_ hlt;have hrl:=hregs.len;have hbl:=hblks.len
        by_cases hok:f.blocks.length≤70∧f.regs.length≤300∧f.params≤1000
        · obtain ⟨ho1,ho2,ho3⟩:=hok;(go_wp2_with fail);clear hp hr hreg;obtain ⟨w2,hw2,hs2,hk2,hbel2,hc2,-⟩:=named wo #[.int .i64 f.params,.int .i64 f.result,.slice Ar f.regs.length cr,.slice Ab f.blocks.length cb] 31;have hc2:=hc2 3 _ rfl;(have hs2:wo.heap.size<w2.heap.size:=by omega);rw [← hw2];clear hw2 hblk
          go_loopw [5] (fun i wr=>∃ j:Nat,j≤f.blocks.length∧i=.int .i64 j∧Below w2.heap.size w2 wr∧Upto SmallB f.blocks j) (fun i _=>f.blocks.length - (intOf i).toNat)
          case atStart=>exact ⟨0,Nat.zero_le _,rfl,Below.refl _ _,Upto.zero⟩
          case round =>
            obtain ⟨j,hj,rfl,hbel',hup'⟩:=hrel;have hs':=hbel'.size;have hkw':Kept w2 wr:=q6 hbel';have hbox':=hkw' _ _ hc2;have hB':Below w.heap.size w wr:=hB.trans ((hbel2.mono (by omega)).trans (hbel'.mono (by omega)))
            by_cases hlt':j<f.blocks.length
            · obtain ⟨b',o',kb,rfl,hkb,⟨Ap,cp,hphi,hphis⟩,⟨Ai,ci,hins,hinss⟩,⟨hkd,-⟩,⟨har,-⟩,⟨At,ct,hto,htos⟩⟩:=(SBlks.keep (hk2.trans hkw') hblks).at_ hlt';have hpl:=hphis.len;have hil:=hinss.len;have htl:=htos.len
              by_cases hok':kb.ins.length≤300∧kb.phis.length≤300∧kb.term.to.length≤70
              · obtain ⟨hp1,hp2,hp3⟩:=hok';(go_wp2_with fail);clear hphi hkd har hto;obtain ⟨w3,hw3,hs3,hk3,hbel3,hc3,-⟩:=named wr #[.slice Ap kb.phis.length cp,.slice Ai kb.ins.length ci,.int .i64 kb.term.kind,.int .i64 kb.term.arg,.slice At kb.term.to.length ct] 43;have hc30:=hc3 0 _ rfl;have hc31:=hc3 1 _ rfl;(have hs3:wr.heap.size<w3.heap.size:=by omega);have hB3:Below w.heap.size w w3:=hB'.trans (hbel3.mono (by omega));rw [← hw3]
                clear hw3 hins hc3;have hinss3:=SInss.keep hk3 hinss;have hphis3:=SPhis.keep hk3 hphis;clear hinss hphis
                go_loopw [7] (fun i wi=>∃ n q:Nat,n≤kb.ins.length∧i=.int .i64 n∧wi=w3.drewN q∧Upto (fun x:InsD=>x.args.length≤300) kb.ins n) (fun i _=>kb.ins.length - (intOf i).toNat)
                case atStart=>exact ⟨0,0,Nat.zero_le _,rfl,rfl,Upto.zero⟩
                case round =>
                  obtain ⟨n,q,hn,rfl,rfl,hup3⟩:=hrel
                  by_cases hlt3:n<kb.ins.length
                  · obtain ⟨b3,o3,x,rfl,hx,-,-,⟨Aa,ca,hag,hags⟩,-,-⟩:=hinss3.at_ hlt3;have hal:=hags.len
                    by_cases hok3:x.args.length≤300
                    · go_wp2_with fail
                      go_roundw
                      case rel=>exact ⟨n+1,_,by omega,by go_num,rfl,hup3.succ hx.out hok3⟩
                      case measure=>simp [intOf];omega
                    · (go_wp2_with fail);(go_ret);exact Says.no (below_drewN hB3 _)
                  · (go_wp2_with fail);have hi3:=hup3.all (by omega);have HI3:=Lib.hid hi3;clear hi3 hup3
                    go_loopw [8] (fun i wi=>∃ n q:Nat,n≤kb.phis.length∧i=.int .i64 n∧wi=w3.drewN q∧Upto (fun x:PhiD=>x.args.length≤300) kb.phis n) (fun i _=>kb.phis.length - (intOf i).toNat)
                    case atStart=>exact ⟨0,q,Nat.zero_le _,rfl,rfl,Upto.zero⟩
                    case round =>
                      obtain ⟨n',q',hn',rfl,rfl,hup4⟩:=hrel
                      by_cases hlt4:n'<kb.phis.length
                      · obtain ⟨b4,o4,x,rfl,hx,-,⟨Aa,ca,hag,hags⟩⟩:=hphis3.at_ hlt4;have hal:=hags.len
                        by_cases hok3:x.args.length≤300
                        · go_wp2_with fail
                          go_roundw
                          case rel=>exact ⟨n'+1,_,by omega,by go_num,rfl,hup4.succ hx.out hok3⟩
                          case measure=>simp [intOf];omega
                        · (go_wp2_with fail);(go_ret);exact Says.no (below_drewN hB3 _)
                      · go_wp2_with fail
                        go_roundw
                        case rel=>exact ⟨j+1,by omega,by go_num,below_drewN ((hbel'.trans (hbel3.mono (by omega)))) _,hup'.succ hkb.out ⟨hp1,hp2,hp3,HI3.out,hup4.all (by omega)⟩⟩
                        case measure=>simp [intOf];omega
              · (have hno:300<kb.ins.length∨300<kb.phis.length∨70<kb.term.to.length:=by omega);clear hok'
                by_cases hq1:300<kb.ins.length
                · clear hno;(go_wp2_with fail);all_goals (go_ret;exact Says.no (hB'.alloc (by omega) _))
                · by_cases hq2:300<kb.phis.length
                  · clear hno;(go_wp2_with fail);all_goals (go_ret;exact Says.no (hB'.alloc (by omega) _))
                  · (have hq3:70<kb.term.to.length:=by omega);clear hno;(go_wp2_with fail);all_goals (go_ret;exact Says.no (hB'.alloc (by omega) _))
            · go_wp2_with fail
              go_roundw
              case rel=>exact ⟨k+1,by omega,by go_num,hbel.trans ((hbel2.mono (by omega)).trans (hbel'.mono (by omega))),hup.succ hf.out ⟨ho1,ho2,ho3,hup'.all (by omega)⟩⟩
              case measure=>simp [intOf];omega
        · (have hno:70<f.blocks.length∨300<f.regs.length∨1000<f.params:=by omega);clear hok
          by_cases hq1:70<f.blocks.length
          · clear hno;(go_wp2_with fail);all_goals (go_ret;exact Says.no (hB.alloc (by omega) _))
          · by_cases hq2:300<f.regs.length
            · clear hno;(go_wp2_with fail);all_goals (go_ret;exact Says.no (hB.alloc (by omega) _))
            · (have hq3:1000<f.params:=by omega);clear hno;(go_wp2_with fail);all_goals (go_ret;exact Says.no (hB.alloc (by omega) _))
      · (go_wp2_with fail);(go_ret);exact ⟨⟨true,rfl,fun _=>⟨by omega,hup.all (by omega)⟩⟩,hB⟩
def WInt (B:Nat→Prop) (w:World) (b o:Nat) (x:Int):Prop:=B b∧(∃ y:Int,w.cell? ⟨b,o,none⟩=some (.int .i64 y))∧w.frozen? ⟨b,o,none⟩=false
def WInsS (B:Nat→Prop) (w:World) (b o:Nat) (x:InsD):Prop:=CS w b (o+2) 1 (WInt B) x.args
def WBlkS (B:Nat→Prop) (w:World) (b o:Nat) (k:BlkD):Prop:=CS w b (o+1) 5 (WInsS B) k.ins∧CS w b (o+4) 1 (WInt B) k.term.to
structure WStp (w w':World):Prop where
  slice:∀ a A l c,w.cell? a=some (.slice A l c)→w'.cell? a=some (.slice A l c)
  num:∀ a (y:Int),w.cell? a=some (.int .i64 y)→(∃ z:Int,w'.cell? a=some (.int .i64 z))∧w'.frozen? a=w.frozen? a
theorem WStp.below {w w':World} (h:Below w.heap.size w w'):WStp w w' :=
  ⟨fun a A l c ha=>q6 h _ _ ha,fun a y ha=>⟨⟨y,q6 h _ _ ha⟩,h.frozen (block_lt_of_cell ha)⟩⟩
theorem WStp.set {w:World} {a:Addr} {y:Int} (h:w.cell? a=some (.int .i64 y)) (z:Int):WStp w (w.setCell a (.int .i64 z)):=by
  refine ⟨fun x A l c hx=>?_,fun x y' hx=>⟨?_,World.frozen?_setCell _ _ _ _⟩⟩
  · rw [World.cell?_setCell_other _ _ _ _ (fun e=>by subst e;rw [h] at hx;cases hx)];exact hx
  · by_cases e:a=x
    · subst e;exact ⟨z,World.cell?_setCell_same _ _ _ h⟩
    · exact ⟨y',(World.cell?_setCell_other _ _ _ _ e).trans hx⟩
section
variable {w w':World} {B:Nat→Prop} (h:WStp w w')
include h
theorem WInt.go (b o:Nat) (x:Int) (hv:WInt B w b o x):WInt B w' b o x:=by
  obtain ⟨h1,⟨y,h2⟩,h3⟩:=hv;obtain ⟨h4,h5⟩:=h.num _ _ h2;exact ⟨h1,h4,h5.trans h3⟩
theorem CSW.go {α:Type} {sz:Nat} {R:World→Nat→Nat→α→Prop} (hR:∀ b o x,R w b o x→R w' b o x) {b o:Nat} {xs:List α} (hv:CS w b o sz R xs):CS w' b o sz R xs:=by
  obtain ⟨A,c,e,h1⟩:=hv;exact ⟨A,c,h.slice _ _ _ _ e,SL.imp hR h1⟩
theorem WInsS.go (b o:Nat) (x:InsD) (hv:WInsS B w b o x):WInsS B w' b o x:=CSW.go h (WInt.go h) hv
theorem WBlkS.go (b o:Nat) (x:BlkD) (hv:WBlkS B w b o x):WBlkS B w' b o x:=⟨CSW.go h (WInsS.go h) hv.1,CSW.go h (WInt.go h) hv.2⟩
end
def BN (N M:Nat) (b:Nat):Prop:=N≤b∧b<M
theorem WInt.of {N:Nat} {w:World} (b o:Nat) (x:Int) (h:RIntB (BG N w) w b o x):WInt (BN N w.heap.size) w b o x:=⟨⟨h.1.1,block_lt_of_cell h.2.1⟩,⟨x,h.2.1⟩,h.1.2.free o⟩
theorem WInsS.of {N:Nat} {w:World} (b o:Nat) (x:InsD) (h:RInsB (BG N w) w b o x):WInsS (BN N w.heap.size) w b o x:=by
  obtain ⟨_,_,_,⟨A,c,e,h1⟩,_⟩:=h;exact ⟨A,c,e,SL.imp WInt.of h1⟩
theorem WBlkS.of {N:Nat} {w:World} (b o:Nat) (x:BlkD) (h:RBlkB (BG N w) w b o x):WBlkS (BN N w.heap.size) w b o x:=by
  obtain ⟨_,_,⟨A,c,e,h1⟩,_,_,⟨A',c',e',h2⟩⟩:=h;exact ⟨⟨A,c,e,SL.imp WInsS.of h1⟩,⟨A',c',e',SL.imp WInt.of h2⟩⟩
structure WF (B:Nat→Prop) (P:Nat) (g:FunD) (W w:World):Prop where
  regs:CS w P 2 1 (WInt B) g.regs
  blks:CS w P 3 5 (WBlkS B) g.blocks
  fr:FrX B W w
theorem WF.set {B:Nat→Prop} {P:Nat} {g:FunD} {W w:World} (h:WF B P g W w) {a:Addr} {y:Int} (ha:w.cell? a=some (.int .i64 y)) (hB:B a.block) (z:Int):WF B P g W (w.setCell a (.int .i64 z)) :=
  ⟨CSW.go (WStp.set ha z) (WInt.go (WStp.set ha z)) h.regs,CSW.go (WStp.set ha z) (WBlkS.go (WStp.set ha z)) h.blks,h.fr.setCell (.inl hB) _⟩
end Go.Proofs.Ytfoggldjjnabcaa
