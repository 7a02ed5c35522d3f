/- The reference's Instr, of a call. (Written by gen/genrefh.py out of XRefGall.) -/
import Derived.Test.YtfoggldjjnabcaaGreatDoorRefGJ
namespace Go.Proofs.YtfoggldjjnabcaaGreatDoor
open Go.ChangeShapes Go.WideShapes Go.RowKit Go.Deep
set_option linter.unusedVariables false
set_option maxRecDepth 100000 in
set_option maxHeartbeats 16000000 in
theorem instr_ref17 (m:List FunD) (f:FunD) (x:InsD) (v u y:Value) (w:World) (hv:VMod w v m) (hu:VFun w u f) (hy:VIns w y x) (hty:∀ t∈f.regs,t=1∨t=2) (hal:x.args.length≤100000) (hop0:x.op=17) :
    Calls Tryz.prog 86 #[v,u,y] w fun e w'=>e=.returned (.int .i64 (insR m f x))∧Below w.heap.size w w':=by
  have hv0:=hv;have hu0:=hu;have hy0:=hy;obtain ⟨xop,xdst,xargs,ximm,xfn⟩:=x;obtain ⟨Am,cm,rfl,hm⟩:=hv;obtain ⟨Ar,cr,Ab,cb,rfl,hr,hb,hp64,hr64⟩:=hu;obtain ⟨Ax,cx,rfl,hx,hop64,hd64,hi64,hf64⟩:=hy;dsimp only at hop64 hd64 hi64 hf64 hx hal hop0;have HOP:=Lib.hid hop0
  clear hop0;have hrl:=hr.len;have hxl:=hx.len;have hml:=hm.len;obtain ⟨i0,hi,hz0,hz1,hz2⟩:=info_parts Tryz.info3;have HI:=Lib.hid (And.intro hi (And.intro hz0 (And.intro hz1 hz2)));clear hi hz0 hz1 hz2;have HTY:=Lib.hid hty;clear hty
  obtain ⟨w3,hw3,hs3,hb3,hM3,hF3,hX3⟩:=boxes3 w (.cells #[.slice Am m.length cm] 24) (.cells #[.int .i64 f.params,.int .i64 f.result,.slice Ar f.regs.length cr,.slice Ab f.blocks.length cb] 30) (.cells #[.int .i64 xop,.int .i64 xdst,.slice Ax xargs.length cx,.int .i64 ximm,.int .i64 xfn] 53);have cM:w3.cell? ⟨w.heap.size,0,none⟩=some (.slice Am m.length cm):=(q8 hM3 0).trans rfl;have cF0:w3.cell? ⟨w.heap.size+1,0,none⟩=some (.int .i64 f.params):=(q8 hF3 0).trans rfl;have cF1:w3.cell? ⟨w.heap.size+1,1,none⟩=some (.int .i64 f.result):=(q8 hF3 1).trans rfl;have cF2:w3.cell? ⟨w.heap.size+1,2,none⟩=some (.slice Ar f.regs.length cr):=(q8 hF3 2).trans rfl;have cF3:w3.cell? ⟨w.heap.size+1,3,none⟩=some (.slice Ab f.blocks.length cb):=(q8 hF3 3).trans rfl;have cX0:w3.cell? ⟨w.heap.size+1+1,0,none⟩=some (.int .i64 xop):=(q8 hX3 0).trans rfl;have cX1:w3.cell? ⟨w.heap.size+1+1,1,none⟩=some (.int .i64 xdst):=(q8 hX3 1).trans rfl;have cX2:w3.cell? ⟨w.heap.size+1+1,2,none⟩=some (.slice Ax xargs.length cx):=(q8 hX3 2).trans rfl
  have cX3:w3.cell? ⟨w.heap.size+1+1,3,none⟩=some (.int .i64 ximm):=(q8 hX3 3).trans rfl;have cX4:w3.cell? ⟨w.heap.size+1+1,4,none⟩=some (.int .i64 xfn):=(q8 hX3 4).trans rfl;have hk3:=q6 hb3;clear hM3 hF3 hX3;(go_enter Tryz.func86,Tryz.ntmps86);(go_wp2_with fail);rw [← hw3];clear hw3;refine (kinds_any m f ⟨xop,xdst,xargs,ximm,xfn⟩ _ _ _ _ (VMod.keep hk3 hv0) (VFun.keep hk3 hu0) (VIns.keep hk3 hy0)).mono ?_
  rintro e w4 hT;obtain ⟨⟨A4,c4,rfl,hs4,h17⟩,hb4⟩:=hT;have hl4:=hs4.len;have hk4:=q6 hb4;have hB4:Below w.heap.size w w4:=hb3.trans (hb4.mono hb3.size);have hK4:=hk3.trans hk4;have cM:=hk4 _ _ cM;have cF0:=hk4 _ _ cF0;have cF1:=hk4 _ _ cF1
  have cF2:=hk4 _ _ cF2;have cF3:=hk4 _ _ cF3;have cX0:=hk4 _ _ cX0;have cX1:=hk4 _ _ cX1;have cX2:=hk4 _ _ cX2;have cX3:=hk4 _ _ cX3;have cX4:=hk4 _ _ cX4;have hs4':w.heap.size+1+1<w4.heap.size:=Nat.lt_of_lt_of_le hs3 hb4.size;go_upto_if 26 with fail
  go_cut [7,8,9,10] (fun s7 s8 s9 s10 wx=>∃ A c ts d ok odd,s7=.slice A (ts:List Int).length c∧s8=.int .i64 d∧s9=.bool ok∧s10=.bool odd∧SL wx 1 RInt A c ts∧Below w4.heap.size w4 wx∧Hid (insR m f ⟨xop,xdst,xargs,ximm,xfn⟩=tailR f ⟨xop,xdst,xargs,ximm,xfn⟩ ts d ok odd)∧Hid (xop=1→ok=true→0<d)∧I64 d)
  case first =>
    by_cases hop:xop=17
    · (have hop':(xop == 17)=true:=by simp [hop]);obtain ⟨rfl,rfl⟩:=h17 hop;(have HR:Hid (∀ r,(if isIn m.length xfn then (if (xargs.length:Int)=(funAt m xfn).params then tailR f ⟨xop,xdst,xargs,ximm,xfn⟩ (tsF (oddB (funAt m xfn)) (callP (funAt m xfn))) (funAt m xfn).result true (oddF (oddB (funAt m xfn)) (callP (funAt m xfn))) else 6) else 4)=r→insR m f ⟨xop,xdst,xargs,ximm,xfn⟩=r):=Lib.hid (fun r h=>by unfold insR;rw [if_pos hop];exact h));have HNC:Hid (xop≠1):=Lib.hid (by omega);clear hop;have hkl:kL f ⟨xop,xdst,xargs,ximm,xfn⟩=[]:=by
        have:=hs4.1;exact List.length_eq_zero_iff.1 (by omega)
      rw [hkl]
      by_cases f0:xfn<0
      · (have HE:=Lib.hid (HR.out 4 (by unfold isIn;rw [decide_eq_false (by omega)];rfl)));(have f0':decide (xfn<0)=true:=by simpa using f0);clear f0 HR;(go_wp2_with fail);(go_ret);exact ⟨by rw [HE.out];rfl,hB4⟩
      · have f0':decide (xfn<0)=false:=by simpa using f0
        by_cases f1:(m.length:Int)≤xfn
        · (have HE:=Lib.hid (HR.out 4 (by unfold isIn;rw [decide_eq_false (by omega)];rfl)));(have f1':decide ((m.length:Int)≤xfn)=true:=by simpa using f1);clear f0 f1 HR;(go_wp2_with fail);(go_ret);exact ⟨by rw [HE.out];rfl,hB4⟩
        · obtain ⟨n,rfl⟩:=Int.eq_ofNat_of_zero_le (Int.not_lt.1 f0);(have hlt:n<m.length:=by omega);(have hlt':(n:Int)<m.length:=by omega);obtain ⟨b,o,g,rfl,hg,⟨hgp,hgp64⟩,⟨hgr,hgr64⟩,⟨Ag,cg,hgreg,hgregs⟩,⟨Bg,dg,hgblk,hgblks⟩⟩:=(SFuns.keep hK4 hm).at_ hlt;have hgl:=hgregs.len;have hgbl:=hgblks.len;(have hfa:funAt m (n:Int)=g:=by unfold funAt;rw [List.getD_eq_getElem?_getD];simp [hg.out]);have hin:isIn m.length (n:Int)=true:=decide_eq_true (by omega);rw [hfa,hin,if_pos rfl] at HR
          clear f0 f1 hfa hin f0'
          by_cases hpe:(xargs.length:Int)=g.params
          · (have hpe':((xargs.length:Int) != g.params)=false:=by simp [hpe]);(have hpn:decide (g.params<0)=false:=by simp;omega);obtain ⟨o0,ho0⟩:∃ o0,o0=oddB g:=⟨_,rfl⟩;have ho0':decide ((g.regs.length:Int)<g.params)=o0:=by
              rw [ho0];unfold oddB;rw [eq_comm,decide_eq_decide];omega
            have hPlen:(callP g).length=xargs.length:=by
              unfold callP
              split
              · simp;omega
              · rename_i h;unfold oddB at h;simp at h;simp;omega
            have HE:=Lib.hid (HR.out _ (if_pos hpe));rw [← ho0] at HE
            have HPR:Hid (o0=false→callP g=g.regs.take g.params.toNat∧g.params≤g.regs.length):=Lib.hid (fun h=>by
              refine ⟨by unfold callP;rw [← ho0,h];rfl,?_⟩
              rw [h,eq_comm] at ho0;unfold oddB at ho0;simp at ho0;omega)
            obtain ⟨P,hP⟩:∃ P,P=callP g:=⟨_,rfl⟩;rw [← hP] at HPR hPlen HE;have HPE:=Lib.hid hpe;clear HR ho0 hP hpe;(go_wp2_with fail);obtain ⟨w5,hw5,hs5,hk5,hb5,hc5,-⟩:=named w4 #[.int .i64 g.params,.int .i64 g.result,.slice Ag g.regs.length cg,.slice Bg g.blocks.length dg] 30;have g0:=hc5 0 _ rfl;have g1:=hc5 1 _ rfl;have g2:=hc5 2 _ rfl
            have hgs5:=SInts.keep hk5 hgregs;(have hs5':w4.heap.size<w5.heap.size:=by omega);rw [← hw5];clear hw5 hc5 hs5 hgp hgr hgreg hgblk hgregs hgblks;have hPn:P.length≤100000:=by omega
            go_loopw [7,10,12] (fun a od i wr=>∃ j:Nat,j≤P.length∧i=.int .i64 j∧od=.bool (oddF o0 (P.take j))∧Below w5.heap.size w5 wr ∧
              wr.ownsRow w5.heap.size 3 1 a (tsF o0 (P.take j)).length ((tsF o0 (P.take j)).map (Value.int .i64))∧Hid (∀ t∈tsF o0 (P.take j),I64 t)) (fun _ _ i _=>P.length - (intOf i).toNat)
            case atStart=>exact ⟨0,Nat.zero_le _,rfl,by simp [oddF],Below.refl _ _,⟨rfl,.inl ⟨rfl,rfl⟩⟩,Lib.hid (by simp [tsF])⟩
            case round =>
              obtain ⟨j,hj,rfl,rfl,hbel,hown,h64⟩:=hrel;have hs:=hbel.size;have hkw:Kept w5 wr:=q6 hbel;have g0w:=hkw _ _ g0;have g1w:=hkw _ _ g1;have g2w:=hkw _ _ g2
              by_cases hjt:j<P.length
              · (have hjp:decide ((j:Int)<g.params)=true:=by have:=HPE.out;simp;omega);obtain ⟨p,hp⟩:∃ p,P[j]?=some p:=⟨_,List.getElem?_eq_getElem hjt⟩;have HT:=Lib.hid (tsF_step (o:=o0) hp);have HO:=Lib.hid (oddF_step (o:=o0) hp);(have hTL:(tsF o0 (P.take j)).length=j:=by rw [tsF_len,List.length_take];omega);cases hod:oddF o0 (P.take j)
                · have ho0:o0=false:=by
                    unfold oddF at hod;simp at hod;exact hod.1
                  obtain ⟨hPe,hPg⟩:=HPR.out ho0;(have hjr:j<g.regs.length:=by have:=HPE.out;omega);obtain ⟨b',o',x,rfl,hx,hxc,hx64⟩:=(SInts.keep hkw hgs5).int hjr;have hpx:p=x:=by
                    have:=hx.out;(rw [hPe,List.getElem?_take_of_lt (by have:=HPE.out;omega)] at hp);rw [hp] at this;exact Option.some.inj this
                  subst hpx;(have hk0:(0:Int)≤j:=by omega);(have hk1:(j:Int)<g.regs.length:=by omega);rw [hod,if_neg (by decide)] at HT;rw [hod,Bool.false_or] at HO;clear hPe ho0 hp hod
                  have H64:Hid (∀ t∈tsF o0 (P.take (j+1)),I64 t):=Lib.hid (by
                    rw [HT.out];intro t ht;rcases List.mem_append.1 ht with h | h
                    · exact h64.out t h
                    · rw [List.mem_singleton.1 h];exact hx64)
                  generalize tsF o0 (P.take j)=T at *
                  by_cases hx0:p<0
                  · (have hx0':decide (p<0)=true:=by simpa using hx0);rw [hx0'] at HO;clear hx0;go_wp2_with (at_builtin;refine wpList_append_own _ rfl (.tmp 79) (.tmp 81) 27 rfl w5.heap.size 3 i0 (.int .i64 0) 1 8 Tryz.underlying27 HI.out.1 HI.out.2.1 HI.out.2.2.1 HI.out.2.2.2 rfl (by decide) _ _ _ rfl (World.ownsRow.alloc (w:=wr) hown _) ⟨wr.heap.size,0,none⟩ 1 1 [.int .i64 p] rfl rfl ?c1 ?c2 ?c3 ?c4 ?c5 ?_)
                    case c1=>first | exact news_one wr _ _ rfl | exact qi wr _ _ rfl
                    case c2=>first | rfl | exact ints_oneCell .i64 [p]
                    case c3=>unfold maxLen;omega
                    case c4=>first | omega | (simp;omega)
                    case c5=>first | omega | (simp;omega)
                    intro v' w6 hown' hgrow _;(have hbel6:Below w5.heap.size w5 w6:=(hbel.alloc hs _).grown hgrow (by simp;omega) (fun g hg=>(hown.lt g hg).1));go_wp2_with fail
                    go_roundw
                    case rel=>exact ⟨j+1,by omega,by go_num,by rw [HO.out],hbel6,by rw [HT.out];simpa [hTL] using hown',H64⟩
                    case measure=>simp [intOf];omega
                  · (have hx0':decide (p<0)=false:=by simpa using hx0);rw [hx0'] at HO;clear hx0;go_wp2_with (at_builtin;refine wpList_append_own _ rfl (.tmp 79) (.tmp 81) 27 rfl w5.heap.size 3 i0 (.int .i64 0) 1 8 Tryz.underlying27 HI.out.1 HI.out.2.1 HI.out.2.2.1 HI.out.2.2.2 rfl (by decide) _ _ _ rfl (World.ownsRow.alloc (w:=wr) hown _) ⟨wr.heap.size,0,none⟩ 1 1 [.int .i64 p] rfl rfl ?c1 ?c2 ?c3 ?c4 ?c5 ?_)
                    case c1=>first | exact news_one wr _ _ rfl | exact qi wr _ _ rfl
                    case c2=>first | rfl | exact ints_oneCell .i64 [p]
                    case c3=>unfold maxLen;omega
                    case c4=>first | omega | (simp;omega)
                    case c5=>first | omega | (simp;omega)
                    intro v' w6 hown' hgrow _;(have hbel6:Below w5.heap.size w5 w6:=(hbel.alloc hs _).grown hgrow (by simp;omega) (fun g hg=>(hown.lt g hg).1));go_wp2_with fail
                    go_roundw
                    case rel=>exact ⟨j+1,by omega,by go_num,by rw [HO.out],hbel6,by rw [HT.out];simpa [hTL] using hown',H64⟩
                    case measure=>simp [intOf];omega
                · rw [hod,if_pos rfl] at HT;rw [hod,Bool.true_or] at HO;clear hp hod
                  have H64:Hid (∀ t∈tsF o0 (P.take (j+1)),I64 t):=Lib.hid (by
                    rw [HT.out];intro t ht;rcases List.mem_append.1 ht with h | h
                    · exact h64.out t h
                    · rw [List.mem_singleton.1 h];unfold I64;omega)
                  generalize tsF o0 (P.take j)=T at *;go_wp2_with (at_builtin;refine wpList_append_own _ rfl (.tmp 79) (.tmp 81) 27 rfl w5.heap.size 3 i0 (.int .i64 0) 1 8 Tryz.underlying27 HI.out.1 HI.out.2.1 HI.out.2.2.1 HI.out.2.2.2 rfl (by decide) _ _ _ rfl (World.ownsRow.alloc (w:=wr) hown _) ⟨wr.heap.size,0,none⟩ 1 1 [.int .i64 (-1)] rfl rfl ?c1 ?c2 ?c3 ?c4 ?c5 ?_)
                  case c1=>first | exact news_one wr _ _ rfl | exact qi wr _ _ rfl
                  case c2=>first | rfl | exact ints_oneCell .i64 [(-1:Int)]
                  case c3=>unfold maxLen;omega
                  case c4=>first | omega | (simp;omega)
                  case c5=>first | omega | (simp;omega)
                  intro v' w6 hown' hgrow _;(have hbel6:Below w5.heap.size w5 w6:=(hbel.alloc hs _).grown hgrow (by simp;omega) (fun g hg=>(hown.lt g hg).1));go_wp2_with fail
                  go_roundw
                  case rel=>exact ⟨j+1,by omega,by go_num,by rw [HO.out],hbel6,by rw [HT.out];simpa [hTL] using hown',H64⟩
                  case measure=>simp [intOf];omega
              · (have hjp:decide ((j:Int)<g.params)=false:=by have:=HPE.out;simp;omega);have hPP:P.take j=P:=List.take_of_length_le (by omega);rw [hPP] at hown h64 ⊢;clear hPP;(go_wp2_with fail);go_meet
                case rel =>
                  obtain ⟨A9,c9,rfl,hs9⟩:=qx hown h64.out;exact ⟨A9,c9,_,_,_,_,rfl,rfl,rfl,rfl,hs9,hb5.trans (hbel.mono (by omega)),HE,Lib.hid (fun h _=>absurd h HNC.out),hgr64⟩
          · (have hpe':((xargs.length:Int) != g.params)=true:=by rw [bne_iff_ne];exact hpe);have HE:=Lib.hid (HR.out 6 (if_neg hpe));clear HR hpe;(go_wp2_with fail);(go_ret);exact ⟨by rw [HE.out];rfl,hB4.alloc (by omega) _⟩
    · exact absurd HOP.out hop
  case rest =>
    obtain ⟨A5,c5,ts,d,ok,odd,rfl,rfl,rfl,rfl,hs5,hb5,HE,HD0,hd64'⟩:=hcut;obtain ⟨w5,rfl⟩:∃ w5,w5=wc:=⟨wc,rfl⟩;have hl5:=hs5.len;have hk5:=q6 hb5;have hB5:Below w.heap.size w w5:=hB4.trans (hb5.mono hB4.size);have hK5:=hK4.trans hk5;have cF0:=hk5 _ _ cF0;have cF1:=hk5 _ _ cF1;have cF2:=hk5 _ _ cF2
    have cF3:=hk5 _ _ cF3;have cX0:=hk5 _ _ cX0;have cX1:=hk5 _ _ cX1;have cX2:=hk5 _ _ cX2;have cX3:=hk5 _ _ cX3;have cX4:=hk5 _ _ cX4;have hs5':w.heap.size+1+1<w5.heap.size:=Nat.lt_of_lt_of_le hs4' hb5.size;have hx5:=SInts.keep hK5 hx;clear hk5 hb5 hb4 hk4 hs4 h17 cM
    cases ok
    · have HE2:Hid (insR m f ⟨xop,xdst,xargs,ximm,xfn⟩=6):=Lib.hid HE.out;(go_wp2_with fail);(go_ret);exact ⟨by rw [HE2.out];rfl,hB5⟩
    · by_cases hll:xargs.length=ts.length
      · (have hll':((xargs.length:Int) != ts.length)=false:=by simp [hll]);have HE2:Hid (insR m f ⟨xop,xdst,xargs,ximm,xfn⟩=restR f ⟨xop,xdst,xargs,ximm,xfn⟩ ts d odd):=Lib.hid (HE.out.trans (if_pos hll));have HLL:=Lib.hid hll;clear hll HE;go_wp2_with fail
        go_loopw [14,15] (fun bd i wr=>∃ j:Nat,j≤ts.length∧i=.int .i64 j∧bd=.int .i64 (foldB f.regs ((xargs.zip ts).take j))∧Below w5.heap.size w5 wr) (fun _ i _=>ts.length - (intOf i).toNat)
        case atStart=>exact ⟨0,Nat.zero_le _,rfl,rfl,Below.refl _ _⟩
        case round =>
          obtain ⟨j,hj,rfl,rfl,hbel⟩:=hrel;have hs:=hbel.size;have hkw:Kept w5 wr:=q6 hbel;have hBr:Below w.heap.size w wr:=hB5.trans (hbel.mono hB5.size);have cF0:=hkw _ _ cF0;have cF1:=hkw _ _ cF1;have cF2:=hkw _ _ cF2;have cF3:=hkw _ _ cF3;have cX0:=hkw _ _ cX0
          have cX1:=hkw _ _ cX1;have cX2:=hkw _ _ cX2;have cX3:=hkw _ _ cX3;have cX4:=hkw _ _ cX4
          by_cases hjt:j<ts.length
          · obtain ⟨b1,o1,t,rfl,ht,htc,ht64⟩:=(SInts.keep hkw hs5).int hjt;(obtain ⟨b2,o2,a,rfl,ha,hac,-⟩:=(SInts.keep hkw hx5).int (k:=j) (by rw [HLL.out];exact hjt));(have hk0:(0:Int)≤j:=by omega);(have hk1:(j:Int)<ts.length:=by omega);(have hk2:(j:Int)<xargs.length:=by have:=HLL.out;omega);(have hk3:j<xargs.length:=by have:=HLL.out;omega);have HF:=Lib.hid (foldB_step (regs:=f.regs) (List.getElem?_zip_eq_some.2 ⟨ha.out,ht.out⟩));generalize foldB f.regs ((xargs.zip ts).take j)=b0 at *;go_wp2_with fail
            refine qI (L:=13) (S:=fun w'=>w'.cell? ⟨w.heap.size+1,0,none⟩=some (.int .i64 f.params)∧w'.cell? ⟨w.heap.size+1,1,none⟩=some (.int .i64 f.result)∧w'.cell? ⟨w.heap.size+1,2,none⟩=some (.slice Ar f.regs.length cr)∧w'.cell? ⟨w.heap.size+1,3,none⟩=some (.slice Ab f.blocks.length cb)∧w'.cell? ⟨w.heap.size+1+1,2,none⟩=some (.slice (some ⟨b2,o2,none⟩) xargs.length cx)∧w'.cell? ⟨b1,o1+j,none⟩=some (.int .i64 t)∧w'.cell? ⟨b2,o2+j,none⟩=some (.int .i64 a)) (by kernel_rfl) (by rfl) (by kernel_rfl) (by kernel_rfl) ?_;change wpAnyH _ _ _ _ _ _ _ _ (World.drew _);have hS:∀ w',Below wr.heap.size wr w'→w'.cell? ⟨w.heap.size+1,0,none⟩=some (.int .i64 f.params)∧w'.cell? ⟨w.heap.size+1,1,none⟩=some (.int .i64 f.result)∧w'.cell? ⟨w.heap.size+1,2,none⟩=some (.slice Ar f.regs.length cr)∧w'.cell? ⟨w.heap.size+1,3,none⟩=some (.slice Ab f.blocks.length cb)∧w'.cell? ⟨w.heap.size+1+1,2,none⟩=some (.slice (some ⟨b2,o2,none⟩) xargs.length cx)∧w'.cell? ⟨b1,o1+j,none⟩=some (.int .i64 t)∧w'.cell? ⟨b2,o2+j,none⟩=some (.int .i64 a) :=
              fun w' h=>⟨q6 h _ _ cF0,q6 h _ _ cF1,q6 h _ _ cF2,q6 h _ _ cF3,q6 h _ _ cX2,q6 h _ _ htc,q6 h _ _ hac⟩
            have hbdr:Below wr.heap.size wr wr.drew:=(Below.refl _ _).drew;have hS0:=hS wr.drew hbdr;have HREG:=Lib.hid (is_reg f _ a t wr.drew (VFun.keep (hK5.trans (hkw.trans (q6 hbdr))) hu0) ht64);refine tk 0 101 hS0 ?_;simp only [Act.put,aS,List.set_cons_zero,List.set_cons_succ];refine tk 1 102 hS0 ?_;simp only [Act.put,aS,List.set_cons_zero,List.set_cons_succ];refine tk 2 103 hS0 ?_;simp only [Act.put,aS,List.set_cons_zero,List.set_cons_succ]
            refine tk 3 104 hS0 ?_;simp only [Act.put,aS,List.set_cons_zero,List.set_cons_succ];refine tk 4 105 hS0 ?_;simp only [Act.put,aS,List.set_cons_zero,List.set_cons_succ];refine tk 5 106 hS0 ?_;simp only [Act.put,aS,List.set_cons_zero,List.set_cons_succ];refine tk 6 107 hS0 ?_;simp only [Act.put,aS,List.set_cons_zero,List.set_cons_succ];refine tk 7 108 hS0 ?_
            simp only [Act.put,aS,List.set_cons_zero,List.set_cons_succ];refine tk 8 109 hS0 ?_;simp only [Act.put,aS,List.set_cons_zero,List.set_cons_succ];refine tk 9 110 hS0 ?_;simp only [Act.put,aS,List.set_cons_zero,List.set_cons_succ];refine tk 10 111 hS0 ?_;simp only [Act.put,aS,List.set_cons_zero,List.set_cons_succ];refine oneH (i:=11) (by kernel_rfl) (fun o ho K hK=>?_);simp only [List.getElem?_toArray,List.getElem?_cons_zero,List.getElem?_cons_succ,Option.some.injEq] at ho;subst ho
            (go_simp);refine HREG.out.mono ?_;rintro e w6 ⟨rfl,hb6⟩;have hb6':Below wr.heap.size wr w6:=hbdr.trans hb6;have hS6:=hS w6 hb6';(go_wp2_with fail);refine hK.out _ _ hS6 ?_;clear hK K;refine oneH (i:=12) (by kernel_rfl) (fun o ho K hK=>?_)
            (simp only [List.getElem?_toArray,List.getElem?_cons_zero,List.getElem?_cons_succ,Option.some.injEq] at ho;subst ho);(go_simp);refine (qR b0 (isE f.regs a t) _).mono ?_;rintro e w7 ⟨rfl,rfl⟩;(go_wp2_with fail);refine hK.out _ _ hS6 ?_;clear hK K;refine wpAnyH_done (by kernel_rfl) ?_ _;refine lastH (by decide) (fun o ho K hK=>?_)
            (simp only [List.getElem?_toArray,List.getElem?_cons_zero,List.getElem?_cons_succ,Option.some.injEq] at ho;subst ho);(go_simp);refine hK.out _ _ ?_;clear hK K;go_wp2_with fail
            go_roundw
            case rel=>exact ⟨j+1,by omega,by go_num,by rw [HF.out],hbel.trans (hb6'.mono hs)⟩
            case measure=>simp [intOf];omega
          · (have hz:(xargs.zip ts).take j=xargs.zip ts:=List.take_of_length_le (by rw [List.length_zip];omega));(have HE3:Hid (insR m f ⟨xop,xdst,xargs,ximm,xfn⟩=b3R f ⟨xop,xdst,xargs,ximm,xfn⟩ (b2R ⟨xop,xdst,xargs,ximm,xfn⟩ odd (b1R f xdst d (foldB f.regs ((xargs.zip ts).take j))))):=Lib.hid (by rw [hz];exact HE2.out));clear HE2 hz;generalize foldB f.regs ((xargs.zip ts).take j)=b0 at *;have hvf:VFun wr (.agg #[.int .i64 f.params,.int .i64 f.result,.slice Ar f.regs.length cr,.slice Ab f.blocks.length cb]) f:=VFun.keep (hK5.trans hkw) hu0;(go_upto_if 115 with fail);go_cut [14] (fun s14 wx=>s14=.int .i64 (b1R f xdst d b0)∧Below wr.heap.size wr wx)
            case first =>
              by_cases d0:d=0
              · have d0':(d == 0)=true:=by simp [d0]
                by_cases dm:xdst=-1
                · (have dm':(xdst != -1)=false:=by simp [dm]);(have H:Hid (b1R f xdst d b0=b0):=Lib.hid (by unfold b1R;rw [if_pos d0,if_pos dm]));clear d0 dm;(go_wp2_with fail);go_meet
                  case rel=>exact ⟨by rw [H.out],Below.refl _ _⟩
                · (have dm':(xdst != -1)=true:=by rw [bne_iff_ne];exact dm);(have H:Hid (b1R f xdst d b0=qM b0 3):=Lib.hid (by unfold b1R;rw [if_pos d0,if_neg dm]));clear d0 dm;(go_wp2_with fail);refine (qR b0 3 _).mono ?_;rintro e w7 ⟨rfl,rfl⟩;(go_wp2_with fail);go_meet
                  case rel=>exact ⟨by rw [H.out],Below.refl _ _⟩
              · have d0':(d == 0)=false:=by simp [d0]
                by_cases dn:d<0
                · (have dn':decide (d<0)=true:=by simpa using dn);(have H:Hid (b1R f xdst d b0=qM b0 (qM (isE f.regs xdst (-1)) 3)):=Lib.hid (by unfold b1R;rw [if_neg d0,if_pos dn]));clear d0 dn;(go_wp2_with fail);(refine (is_reg f _ xdst (-1) _ hvf (by unfold I64;omega)).mono ?_);rintro e w6 ⟨rfl,hb6⟩;(go_wp2_with fail);refine (qR (isE f.regs xdst (-1)) 3 _).mono ?_;rintro e w7 ⟨rfl,rfl⟩
                  (go_wp2_with fail);refine (qR b0 (qM (isE f.regs xdst (-1)) 3) _).mono ?_;rintro e w7 ⟨rfl,rfl⟩;(go_wp2_with fail);go_meet
                  case rel=>exact ⟨by rw [H.out],hb6⟩
                · (have dn':decide (d<0)=false:=by simpa using dn);(have H:Hid (b1R f xdst d b0=qM b0 (isE f.regs xdst d)):=Lib.hid (by unfold b1R;rw [if_neg d0,if_neg dn]));clear d0 dn;(go_wp2_with fail);refine (is_reg f _ xdst d _ hvf hd64').mono ?_;rintro e w6 ⟨rfl,hb6⟩;(go_wp2_with fail);refine (qR b0 (isE f.regs xdst d) _).mono ?_;rintro e w7 ⟨rfl,rfl⟩
                  (go_wp2_with fail);go_meet
                  case rel=>exact ⟨by rw [H.out],hb6⟩
            case rest =>
              obtain ⟨rfl,hb6⟩:=hcut;obtain ⟨w6,rfl⟩:∃ w6,w6=wc:=⟨wc,rfl⟩;have hk6:=q6 hb6;have hB6:Below w.heap.size w w6:=hBr.trans (hb6.mono hBr.size);have cF2:=hk6 _ _ cF2;have cX0:=hk6 _ _ cX0;have cX1:=hk6 _ _ cX1;have cX3:=hk6 _ _ cX3;have cX4:=hk6 _ _ cX4
              have hs6:w.heap.size+1+1<w6.heap.size:=Nat.lt_of_lt_of_le (Nat.lt_of_lt_of_le hs5' hs) hb6.size;have hr6:=SInts.keep (hK5.trans (hkw.trans hk6)) hr;have HIN:Hid (xop=1→b1R f xdst d b0=0→isIn f.regs.length xdst=true):=Lib.hid (fun h h2=>b1_in (HD0.out h trivial) h2);clear hvf hk6 hb6 hs hbel hkw;generalize b1R f xdst d b0=b1 at *;(go_upto_region 33 with fail);go_cut [157] (fun s157 wx=>s157=.bool (qW ⟨xop,xdst,xargs,ximm,xfn⟩ odd)∧wx=w6)
              case first =>
                (have a1:(xop != 1)=true:=by rw [HOP.out];rfl);(have a3:(xop != 17)=false:=by rw [HOP.out];rfl);rcases (show (ximm != 0)=true∨(ximm != 0)=false by cases (ximm != 0) <;> simp) with a2 | a2
                · skip
                  (have H:Hid (qW ⟨xop,xdst,xargs,ximm,xfn⟩ odd=true):=Lib.hid (by unfold qW;dsimp only;rw [a1,a2];cases odd <;> rfl));(go_wp2_with fail);go_meet
                  case rel=>exact ⟨by rw [H.out],rfl⟩
                · skip
                  (have H:Hid (qW ⟨xop,xdst,xargs,ximm,xfn⟩ odd=odd):=Lib.hid (by unfold qW;dsimp only;rw [a1,a2,a3];cases odd <;> rfl));(go_wp2_with fail);go_meet
                  case rel=>exact ⟨by rw [H.out],rfl⟩
              case rest =>
               obtain ⟨rfl,rfl⟩:=hcut;(go_upto_if 157 with fail);go_cut [14] (fun s14 wx=>s14=.int .i64 (b2R ⟨xop,xdst,xargs,ximm,xfn⟩ odd b1)∧wx=wc)
               case first =>
                have HB:Hid (b2R ⟨xop,xdst,xargs,ximm,xfn⟩ odd b1=if qW ⟨xop,xdst,xargs,ximm,xfn⟩ odd then qM b1 3 else b1):=Lib.hid rfl;generalize qW ⟨xop,xdst,xargs,ximm,xfn⟩ odd=wb at *;cases wb
                · (go_wp2_with fail);go_meet
                  case rel=>exact ⟨by rw [HB.out];rfl,rfl⟩
                · (go_wp2_with fail);refine (qR b1 3 _).mono ?_;rintro e w7 ⟨rfl,rfl⟩;(go_wp2_with fail);go_meet
                  case rel=>exact ⟨by rw [HB.out];rfl,rfl⟩
               case rest =>
                obtain ⟨rfl,rfl⟩:=hcut;have HIN2:Hid (xop=1→b2R ⟨xop,xdst,xargs,ximm,xfn⟩ odd b1=0→isIn f.regs.length xdst=true):=Lib.hid (fun h h2=>HIN.out h (b2_zero h2));clear HIN;generalize b2R ⟨xop,xdst,xargs,ximm,xfn⟩ odd b1=bb at *
                by_cases o1:xop=1
                · exact absurd (o1.symm.trans HOP.out) (by decide)
                · (have o1':(xop == 1)=false:=by simp [o1]);(have H:Hid (insR m f ⟨xop,xdst,xargs,ximm,xfn⟩=bb):=Lib.hid (by rw [HE3.out];unfold b3R;rw [if_neg (fun h=>o1 h.1)]));clear o1;(go_wp2_with fail);(go_ret);exact ⟨by rw [H.out];rfl,hB6⟩
      · (have hll':((xargs.length:Int) != ts.length)=true:=by rw [bne_iff_ne];omega);have HE2:Hid (insR m f ⟨xop,xdst,xargs,ximm,xfn⟩=6):=Lib.hid (HE.out.trans (if_neg hll));clear hll HE;(go_wp2_with fail);(go_ret);exact ⟨by rw [HE2.out];rfl,hB5⟩
set_option maxRecDepth 100000 in
set_option maxHeartbeats 16000000 in
theorem instr_ref1 (m:List FunD) (f:FunD) (x:InsD) (v u y:Value) (w:World) (hv:VMod w v m) (hu:VFun w u f) (hy:VIns w y x) (hty:∀ t∈f.regs,t=1∨t=2) (hal:x.args.length≤100000) (hop0:x.op=1) :
    Calls Tryz.prog 86 #[v,u,y] w fun e w'=>e=.returned (.int .i64 (insR m f x))∧Below w.heap.size w w':=by
  have hv0:=hv;have hu0:=hu;have hy0:=hy;obtain ⟨xop,xdst,xargs,ximm,xfn⟩:=x;obtain ⟨Am,cm,rfl,hm⟩:=hv;obtain ⟨Ar,cr,Ab,cb,rfl,hr,hb,hp64,hr64⟩:=hu;obtain ⟨Ax,cx,rfl,hx,hop64,hd64,hi64,hf64⟩:=hy;dsimp only at hop64 hd64 hi64 hf64 hx hal hop0;have HOP:=Lib.hid hop0
  clear hop0;have hrl:=hr.len;have hxl:=hx.len;have hml:=hm.len;obtain ⟨i0,hi,hz0,hz1,hz2⟩:=info_parts Tryz.info3;have HI:=Lib.hid (And.intro hi (And.intro hz0 (And.intro hz1 hz2)));clear hi hz0 hz1 hz2;have HTY:=Lib.hid hty;clear hty
  obtain ⟨w3,hw3,hs3,hb3,hM3,hF3,hX3⟩:=boxes3 w (.cells #[.slice Am m.length cm] 24) (.cells #[.int .i64 f.params,.int .i64 f.result,.slice Ar f.regs.length cr,.slice Ab f.blocks.length cb] 30) (.cells #[.int .i64 xop,.int .i64 xdst,.slice Ax xargs.length cx,.int .i64 ximm,.int .i64 xfn] 53);have cM:w3.cell? ⟨w.heap.size,0,none⟩=some (.slice Am m.length cm):=(q8 hM3 0).trans rfl;have cF0:w3.cell? ⟨w.heap.size+1,0,none⟩=some (.int .i64 f.params):=(q8 hF3 0).trans rfl;have cF1:w3.cell? ⟨w.heap.size+1,1,none⟩=some (.int .i64 f.result):=(q8 hF3 1).trans rfl;have cF2:w3.cell? ⟨w.heap.size+1,2,none⟩=some (.slice Ar f.regs.length cr):=(q8 hF3 2).trans rfl;have cF3:w3.cell? ⟨w.heap.size+1,3,none⟩=some (.slice Ab f.blocks.length cb):=(q8 hF3 3).trans rfl;have cX0:w3.cell? ⟨w.heap.size+1+1,0,none⟩=some (.int .i64 xop):=(q8 hX3 0).trans rfl;have cX1:w3.cell? ⟨w.heap.size+1+1,1,none⟩=some (.int .i64 xdst):=(q8 hX3 1).trans rfl;have cX2:w3.cell? ⟨w.heap.size+1+1,2,none⟩=some (.slice Ax xargs.length cx):=(q8 hX3 2).trans rfl
  have cX3:w3.cell? ⟨w.heap.size+1+1,3,none⟩=some (.int .i64 ximm):=(q8 hX3 3).trans rfl;have cX4:w3.cell? ⟨w.heap.size+1+1,4,none⟩=some (.int .i64 xfn):=(q8 hX3 4).trans rfl;have hk3:=q6 hb3;clear hM3 hF3 hX3;(go_enter Tryz.func86,Tryz.ntmps86);(go_wp2_with fail);rw [← hw3];clear hw3;refine (kinds_any m f ⟨xop,xdst,xargs,ximm,xfn⟩ _ _ _ _ (VMod.keep hk3 hv0) (VFun.keep hk3 hu0) (VIns.keep hk3 hy0)).mono ?_
  rintro e w4 hT;obtain ⟨⟨A4,c4,rfl,hs4,h17⟩,hb4⟩:=hT;have hl4:=hs4.len;have hk4:=q6 hb4;have hB4:Below w.heap.size w w4:=hb3.trans (hb4.mono hb3.size);have hK4:=hk3.trans hk4;have cM:=hk4 _ _ cM;have cF0:=hk4 _ _ cF0;have cF1:=hk4 _ _ cF1
  have cF2:=hk4 _ _ cF2;have cF3:=hk4 _ _ cF3;have cX0:=hk4 _ _ cX0;have cX1:=hk4 _ _ cX1;have cX2:=hk4 _ _ cX2;have cX3:=hk4 _ _ cX3;have cX4:=hk4 _ _ cX4;have hs4':w.heap.size+1+1<w4.heap.size:=Nat.lt_of_lt_of_le hs3 hb4.size;go_upto_if 26 with fail
  go_cut [7,8,9,10] (fun s7 s8 s9 s10 wx=>∃ A c ts d ok odd,s7=.slice A (ts:List Int).length c∧s8=.int .i64 d∧s9=.bool ok∧s10=.bool odd∧SL wx 1 RInt A c ts∧Below w4.heap.size w4 wx∧Hid (insR m f ⟨xop,xdst,xargs,ximm,xfn⟩=tailR f ⟨xop,xdst,xargs,ximm,xfn⟩ ts d ok odd)∧Hid (xop=1→ok=true→0<d)∧I64 d)
  case first =>
    by_cases hop:xop=17
    · exact absurd (hop.symm.trans HOP.out) (by decide)
    · (have hop':(xop == 17)=false:=by simp [hop]);(have HR:Hid (insR m f ⟨xop,xdst,xargs,ximm,xfn⟩=tailR f ⟨xop,xdst,xargs,ximm,xfn⟩ (kL f ⟨xop,xdst,xargs,ximm,xfn⟩) (kD f ⟨xop,xdst,xargs,ximm,xfn⟩) (kO f ⟨xop,xdst,xargs,ximm,xfn⟩) false):=Lib.hid (by unfold insR;rw [if_neg hop]));clear hop;(go_wp2_with fail);go_meet
      case rel=>exact ⟨_,_,_,_,_,_,rfl,rfl,rfl,rfl,hs4,Below.refl _ _,HR,Lib.hid (kD_pos HTY.out),kD_i64 HTY.out⟩
  case rest =>
    obtain ⟨A5,c5,ts,d,ok,odd,rfl,rfl,rfl,rfl,hs5,hb5,HE,HD0,hd64'⟩:=hcut;obtain ⟨w5,rfl⟩:∃ w5,w5=wc:=⟨wc,rfl⟩;have hl5:=hs5.len;have hk5:=q6 hb5;have hB5:Below w.heap.size w w5:=hB4.trans (hb5.mono hB4.size);have hK5:=hK4.trans hk5;have cF0:=hk5 _ _ cF0;have cF1:=hk5 _ _ cF1;have cF2:=hk5 _ _ cF2
    have cF3:=hk5 _ _ cF3;have cX0:=hk5 _ _ cX0;have cX1:=hk5 _ _ cX1;have cX2:=hk5 _ _ cX2;have cX3:=hk5 _ _ cX3;have cX4:=hk5 _ _ cX4;have hs5':w.heap.size+1+1<w5.heap.size:=Nat.lt_of_lt_of_le hs4' hb5.size;have hx5:=SInts.keep hK5 hx;clear hk5 hb5 hb4 hk4 hs4 h17 cM
    cases ok
    · have HE2:Hid (insR m f ⟨xop,xdst,xargs,ximm,xfn⟩=6):=Lib.hid HE.out;(go_wp2_with fail);(go_ret);exact ⟨by rw [HE2.out];rfl,hB5⟩
    · by_cases hll:xargs.length=ts.length
      · (have hll':((xargs.length:Int) != ts.length)=false:=by simp [hll]);have HE2:Hid (insR m f ⟨xop,xdst,xargs,ximm,xfn⟩=restR f ⟨xop,xdst,xargs,ximm,xfn⟩ ts d odd):=Lib.hid (HE.out.trans (if_pos hll));have HLL:=Lib.hid hll;clear hll HE;go_wp2_with fail
        go_loopw [14,15] (fun bd i wr=>∃ j:Nat,j≤ts.length∧i=.int .i64 j∧bd=.int .i64 (foldB f.regs ((xargs.zip ts).take j))∧Below w5.heap.size w5 wr) (fun _ i _=>ts.length - (intOf i).toNat)
        case atStart=>exact ⟨0,Nat.zero_le _,rfl,rfl,Below.refl _ _⟩
        case round =>
          obtain ⟨j,hj,rfl,rfl,hbel⟩:=hrel;have hs:=hbel.size;have hkw:Kept w5 wr:=q6 hbel;have hBr:Below w.heap.size w wr:=hB5.trans (hbel.mono hB5.size);have cF0:=hkw _ _ cF0;have cF1:=hkw _ _ cF1;have cF2:=hkw _ _ cF2;have cF3:=hkw _ _ cF3;have cX0:=hkw _ _ cX0
          have cX1:=hkw _ _ cX1;have cX2:=hkw _ _ cX2;have cX3:=hkw _ _ cX3;have cX4:=hkw _ _ cX4
          by_cases hjt:j<ts.length
          · obtain ⟨b1,o1,t,rfl,ht,htc,ht64⟩:=(SInts.keep hkw hs5).int hjt;(obtain ⟨b2,o2,a,rfl,ha,hac,-⟩:=(SInts.keep hkw hx5).int (k:=j) (by rw [HLL.out];exact hjt));(have hk0:(0:Int)≤j:=by omega);(have hk1:(j:Int)<ts.length:=by omega);(have hk2:(j:Int)<xargs.length:=by have:=HLL.out;omega);(have hk3:j<xargs.length:=by have:=HLL.out;omega);have HF:=Lib.hid (foldB_step (regs:=f.regs) (List.getElem?_zip_eq_some.2 ⟨ha.out,ht.out⟩));generalize foldB f.regs ((xargs.zip ts).take j)=b0 at *;go_wp2_with fail
            refine qI (L:=13) (S:=fun w'=>w'.cell? ⟨w.heap.size+1,0,none⟩=some (.int .i64 f.params)∧w'.cell? ⟨w.heap.size+1,1,none⟩=some (.int .i64 f.result)∧w'.cell? ⟨w.heap.size+1,2,none⟩=some (.slice Ar f.regs.length cr)∧w'.cell? ⟨w.heap.size+1,3,none⟩=some (.slice Ab f.blocks.length cb)∧w'.cell? ⟨w.heap.size+1+1,2,none⟩=some (.slice (some ⟨b2,o2,none⟩) xargs.length cx)∧w'.cell? ⟨b1,o1+j,none⟩=some (.int .i64 t)∧w'.cell? ⟨b2,o2+j,none⟩=some (.int .i64 a)) (by kernel_rfl) (by rfl) (by kernel_rfl) (by kernel_rfl) ?_;change wpAnyH _ _ _ _ _ _ _ _ (World.drew _);have hS:∀ w',Below wr.heap.size wr w'→w'.cell? ⟨w.heap.size+1,0,none⟩=some (.int .i64 f.params)∧w'.cell? ⟨w.heap.size+1,1,none⟩=some (.int .i64 f.result)∧w'.cell? ⟨w.heap.size+1,2,none⟩=some (.slice Ar f.regs.length cr)∧w'.cell? ⟨w.heap.size+1,3,none⟩=some (.slice Ab f.blocks.length cb)∧w'.cell? ⟨w.heap.size+1+1,2,none⟩=some (.slice (some ⟨b2,o2,none⟩) xargs.length cx)∧w'.cell? ⟨b1,o1+j,none⟩=some (.int .i64 t)∧w'.cell? ⟨b2,o2+j,none⟩=some (.int .i64 a) :=
              fun w' h=>⟨q6 h _ _ cF0,q6 h _ _ cF1,q6 h _ _ cF2,q6 h _ _ cF3,q6 h _ _ cX2,q6 h _ _ htc,q6 h _ _ hac⟩
            have hbdr:Below wr.heap.size wr wr.drew:=(Below.refl _ _).drew;have hS0:=hS wr.drew hbdr;have HREG:=Lib.hid (is_reg f _ a t wr.drew (VFun.keep (hK5.trans (hkw.trans (q6 hbdr))) hu0) ht64);refine tk 0 101 hS0 ?_;simp only [Act.put,aS,List.set_cons_zero,List.set_cons_succ];refine tk 1 102 hS0 ?_;simp only [Act.put,aS,List.set_cons_zero,List.set_cons_succ];refine tk 2 103 hS0 ?_;simp only [Act.put,aS,List.set_cons_zero,List.set_cons_succ]
            refine tk 3 104 hS0 ?_;simp only [Act.put,aS,List.set_cons_zero,List.set_cons_succ];refine tk 4 105 hS0 ?_;simp only [Act.put,aS,List.set_cons_zero,List.set_cons_succ];refine tk 5 106 hS0 ?_;simp only [Act.put,aS,List.set_cons_zero,List.set_cons_succ];refine tk 6 107 hS0 ?_;simp only [Act.put,aS,List.set_cons_zero,List.set_cons_succ];refine tk 7 108 hS0 ?_
            simp only [Act.put,aS,List.set_cons_zero,List.set_cons_succ];refine tk 8 109 hS0 ?_;simp only [Act.put,aS,List.set_cons_zero,List.set_cons_succ];refine tk 9 110 hS0 ?_;simp only [Act.put,aS,List.set_cons_zero,List.set_cons_succ];refine tk 10 111 hS0 ?_;simp only [Act.put,aS,List.set_cons_zero,List.set_cons_succ];refine oneH (i:=11) (by kernel_rfl) (fun o ho K hK=>?_);simp only [List.getElem?_toArray,List.getElem?_cons_zero,List.getElem?_cons_succ,Option.some.injEq] at ho;subst ho
            (go_simp);refine HREG.out.mono ?_;rintro e w6 ⟨rfl,hb6⟩;have hb6':Below wr.heap.size wr w6:=hbdr.trans hb6;have hS6:=hS w6 hb6';(go_wp2_with fail);refine hK.out _ _ hS6 ?_;clear hK K;refine oneH (i:=12) (by kernel_rfl) (fun o ho K hK=>?_)
            (simp only [List.getElem?_toArray,List.getElem?_cons_zero,List.getElem?_cons_succ,Option.some.injEq] at ho;subst ho);(go_simp);refine (qR b0 (isE f.regs a t) _).mono ?_;rintro e w7 ⟨rfl,rfl⟩;(go_wp2_with fail);refine hK.out _ _ hS6 ?_;clear hK K;refine wpAnyH_done (by kernel_rfl) ?_ _;refine lastH (by decide) (fun o ho K hK=>?_)
            (simp only [List.getElem?_toArray,List.getElem?_cons_zero,List.getElem?_cons_succ,Option.some.injEq] at ho;subst ho);(go_simp);refine hK.out _ _ ?_;clear hK K;go_wp2_with fail
            go_roundw
            case rel=>exact ⟨j+1,by omega,by go_num,by rw [HF.out],hbel.trans (hb6'.mono hs)⟩
            case measure=>simp [intOf];omega
          · (have hz:(xargs.zip ts).take j=xargs.zip ts:=List.take_of_length_le (by rw [List.length_zip];omega));(have HE3:Hid (insR m f ⟨xop,xdst,xargs,ximm,xfn⟩=b3R f ⟨xop,xdst,xargs,ximm,xfn⟩ (b2R ⟨xop,xdst,xargs,ximm,xfn⟩ odd (b1R f xdst d (foldB f.regs ((xargs.zip ts).take j))))):=Lib.hid (by rw [hz];exact HE2.out));clear HE2 hz;generalize foldB f.regs ((xargs.zip ts).take j)=b0 at *;have hvf:VFun wr (.agg #[.int .i64 f.params,.int .i64 f.result,.slice Ar f.regs.length cr,.slice Ab f.blocks.length cb]) f:=VFun.keep (hK5.trans hkw) hu0;(go_upto_if 115 with fail);go_cut [14] (fun s14 wx=>s14=.int .i64 (b1R f xdst d b0)∧Below wr.heap.size wr wx)
            case first =>
              by_cases d0:d=0
              · have d0':(d == 0)=true:=by simp [d0]
                by_cases dm:xdst=-1
                · (have dm':(xdst != -1)=false:=by simp [dm]);(have H:Hid (b1R f xdst d b0=b0):=Lib.hid (by unfold b1R;rw [if_pos d0,if_pos dm]));clear d0 dm;(go_wp2_with fail);go_meet
                  case rel=>exact ⟨by rw [H.out],Below.refl _ _⟩
                · (have dm':(xdst != -1)=true:=by rw [bne_iff_ne];exact dm);(have H:Hid (b1R f xdst d b0=qM b0 3):=Lib.hid (by unfold b1R;rw [if_pos d0,if_neg dm]));clear d0 dm;(go_wp2_with fail);refine (qR b0 3 _).mono ?_;rintro e w7 ⟨rfl,rfl⟩;(go_wp2_with fail);go_meet
                  case rel=>exact ⟨by rw [H.out],Below.refl _ _⟩
              · have d0':(d == 0)=false:=by simp [d0]
                by_cases dn:d<0
                · (have dn':decide (d<0)=true:=by simpa using dn);(have H:Hid (b1R f xdst d b0=qM b0 (qM (isE f.regs xdst (-1)) 3)):=Lib.hid (by unfold b1R;rw [if_neg d0,if_pos dn]));clear d0 dn;(go_wp2_with fail);(refine (is_reg f _ xdst (-1) _ hvf (by unfold I64;omega)).mono ?_);rintro e w6 ⟨rfl,hb6⟩;(go_wp2_with fail);refine (qR (isE f.regs xdst (-1)) 3 _).mono ?_;rintro e w7 ⟨rfl,rfl⟩
                  (go_wp2_with fail);refine (qR b0 (qM (isE f.regs xdst (-1)) 3) _).mono ?_;rintro e w7 ⟨rfl,rfl⟩;(go_wp2_with fail);go_meet
                  case rel=>exact ⟨by rw [H.out],hb6⟩
                · (have dn':decide (d<0)=false:=by simpa using dn);(have H:Hid (b1R f xdst d b0=qM b0 (isE f.regs xdst d)):=Lib.hid (by unfold b1R;rw [if_neg d0,if_neg dn]));clear d0 dn;(go_wp2_with fail);refine (is_reg f _ xdst d _ hvf hd64').mono ?_;rintro e w6 ⟨rfl,hb6⟩;(go_wp2_with fail);refine (qR b0 (isE f.regs xdst d) _).mono ?_;rintro e w7 ⟨rfl,rfl⟩
                  (go_wp2_with fail);go_meet
                  case rel=>exact ⟨by rw [H.out],hb6⟩
            case rest =>
              obtain ⟨rfl,hb6⟩:=hcut;obtain ⟨w6,rfl⟩:∃ w6,w6=wc:=⟨wc,rfl⟩;have hk6:=q6 hb6;have hB6:Below w.heap.size w w6:=hBr.trans (hb6.mono hBr.size);have cF2:=hk6 _ _ cF2;have cX0:=hk6 _ _ cX0;have cX1:=hk6 _ _ cX1;have cX3:=hk6 _ _ cX3;have cX4:=hk6 _ _ cX4
              have hs6:w.heap.size+1+1<w6.heap.size:=Nat.lt_of_lt_of_le (Nat.lt_of_lt_of_le hs5' hs) hb6.size;have hr6:=SInts.keep (hK5.trans (hkw.trans hk6)) hr;have HIN:Hid (xop=1→b1R f xdst d b0=0→isIn f.regs.length xdst=true):=Lib.hid (fun h h2=>b1_in (HD0.out h trivial) h2);clear hvf hk6 hb6 hs hbel hkw;generalize b1R f xdst d b0=b1 at *;(go_upto_region 33 with fail);go_cut [157] (fun s157 wx=>s157=.bool (qW ⟨xop,xdst,xargs,ximm,xfn⟩ odd)∧wx=w6)
              case first =>
                (have a1:(xop != 1)=false:=by rw [HOP.out];rfl);(have a3:(xop != 17)=true:=by rw [HOP.out];rfl);rcases (show (xfn != 0)=true∨(xfn != 0)=false by cases (xfn != 0) <;> simp) with a4 | a4
                · skip
                  (have H:Hid (qW ⟨xop,xdst,xargs,ximm,xfn⟩ odd=true):=Lib.hid (by unfold qW;dsimp only;rw [a1,a3,a4];cases odd <;> rfl));(go_wp2_with fail);go_meet
                  case rel=>exact ⟨by rw [H.out],rfl⟩
                · skip
                  (have H:Hid (qW ⟨xop,xdst,xargs,ximm,xfn⟩ odd=odd):=Lib.hid (by unfold qW;dsimp only;rw [a1,a3,a4];cases odd <;> rfl));(go_wp2_with fail);go_meet
                  case rel=>exact ⟨by rw [H.out],rfl⟩
              case rest =>
               obtain ⟨rfl,rfl⟩:=hcut;(go_upto_if 157 with fail);go_cut [14] (fun s14 wx=>s14=.int .i64 (b2R ⟨xop,xdst,xargs,ximm,xfn⟩ odd b1)∧wx=wc)
               case first =>
                have HB:Hid (b2R ⟨xop,xdst,xargs,ximm,xfn⟩ odd b1=if qW ⟨xop,xdst,xargs,ximm,xfn⟩ odd then qM b1 3 else b1):=Lib.hid rfl;generalize qW ⟨xop,xdst,xargs,ximm,xfn⟩ odd=wb at *;cases wb
                · (go_wp2_with fail);go_meet
                  case rel=>exact ⟨by rw [HB.out];rfl,rfl⟩
                · (go_wp2_with fail);refine (qR b1 3 _).mono ?_;rintro e w7 ⟨rfl,rfl⟩;(go_wp2_with fail);go_meet
                  case rel=>exact ⟨by rw [HB.out];rfl,rfl⟩
               case rest =>
                obtain ⟨rfl,rfl⟩:=hcut;have HIN2:Hid (xop=1→b2R ⟨xop,xdst,xargs,ximm,xfn⟩ odd b1=0→isIn f.regs.length xdst=true):=Lib.hid (fun h h2=>HIN.out h (b2_zero h2));clear HIN;generalize b2R ⟨xop,xdst,xargs,ximm,xfn⟩ odd b1=bb at *
                by_cases o1:xop=1
                · have o1':(xop == 1)=true:=by simp [o1]
                  by_cases z0:bb=0
                  · (have z0':(bb == 0)=true:=by simp [z0]);have hin:=of_decide_eq_true (HIN2.out o1 z0);obtain ⟨k,rfl⟩:=Int.eq_ofNat_of_zero_le hin.1;(have hkl:k<f.regs.length:=by omega);(have hkl0:(0:Int)≤k:=by omega);(have hkl1:(k:Int)<f.regs.length:=by omega);obtain ⟨b',o',r,rfl,hrr,hrc,-⟩:=hr6.int hkl;have hrg:reg f.regs k=r:=reg_of rfl hrr.out
                    by_cases r2:r=2
                    · have r2':(r == 2)=true:=by simp [r2]
                      by_cases i0':ximm=0
                      · (have q:(ximm != 0)=false:=by simp [i0']);(have H:Hid (insR m f ⟨xop,k,xargs,ximm,xfn⟩=bb):=Lib.hid (by rw [HE3.out];unfold b3R;rw [if_neg (fun h=>h.2.2.2.1 i0')]));clear o1 z0 r2 i0' hin hrg;(go_wp2_with fail);(go_ret);exact ⟨by rw [H.out];rfl,hB6⟩
                      · have q:(ximm != 0)=true:=by rw [bne_iff_ne];exact i0'
                        by_cases i1':ximm=1
                        · (have q1:(ximm != 1)=false:=by simp [i1']);(have H:Hid (insR m f ⟨xop,k,xargs,ximm,xfn⟩=bb):=Lib.hid (by rw [HE3.out];unfold b3R;rw [if_neg (fun h=>h.2.2.2.2 i1')]));clear o1 z0 r2 i0' i1' hin hrg;(go_wp2_with fail);(go_ret);exact ⟨by rw [H.out];rfl,hB6⟩
                        · (have q1:(ximm != 1)=true:=by rw [bne_iff_ne];exact i1');(have H:Hid (insR m f ⟨xop,k,xargs,ximm,xfn⟩=3):=Lib.hid (by rw [HE3.out];unfold b3R;rw [if_pos ⟨o1,z0,by rw [hrg];exact r2,i0',i1'⟩]));clear o1 z0 r2 i0' i1' hin hrg;(go_wp2_with fail);(go_ret);exact ⟨by rw [H.out];rfl,hB6⟩
                    · (have r2':(r == 2)=false:=by simp [r2]);(have H:Hid (insR m f ⟨xop,k,xargs,ximm,xfn⟩=bb):=Lib.hid (by rw [HE3.out];unfold b3R;rw [if_neg (fun h=>r2 (by rw [← hrg];exact h.2.2.1))]));clear o1 z0 r2 hin hrg;(go_wp2_with fail);(go_ret);exact ⟨by rw [H.out];rfl,hB6⟩
                  · (have z0':(bb == 0)=false:=by simp [z0]);(have H:Hid (insR m f ⟨xop,xdst,xargs,ximm,xfn⟩=bb):=Lib.hid (by rw [HE3.out];unfold b3R;rw [if_neg (fun h=>z0 h.2.1)]));clear o1 z0;(go_wp2_with fail);(go_ret);exact ⟨by rw [H.out];rfl,hB6⟩
                · exact absurd HOP.out o1
      · (have hll':((xargs.length:Int) != ts.length)=true:=by rw [bne_iff_ne];omega);have HE2:Hid (insR m f ⟨xop,xdst,xargs,ximm,xfn⟩=6):=Lib.hid (HE.out.trans (if_neg hll));clear hll HE;(go_wp2_with fail);(go_ret);exact ⟨by rw [HE2.out];rfl,hB5⟩
end Go.Proofs.YtfoggldjjnabcaaGreatDoor
