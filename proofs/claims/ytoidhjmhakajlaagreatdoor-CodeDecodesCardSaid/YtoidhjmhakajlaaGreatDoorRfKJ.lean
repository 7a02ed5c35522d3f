/- The reference's reader: a block. -/
import Derived.Test.YtoidhjmhakajlaaGreatDoorRfLJ
import Derived.Deep.Cut
namespace Go.Proofs.YtoidhjmhakajlaaGreatDoor
open Go.ChangeShapes Go.WideShapes Go.RowKit Go.Deep
set_option linter.unusedVariables false

/-- A loop of the reader: what lies in the row, and what was read. -/
def Lp {α : Type} (sz : Nat) (T : TypeId) (F : (Nat → Prop) → World → α → List Value → Prop) (p : Pr α) (N n k : Nat) (s1 : St) (wr : World) (u : Value) (l : List α) (cs : List Value) (sk : St) : Prop :=
  wr.ownsRow N T sz u k cs ∧ Rows sz (F (fun b => N ≤ b ∧ some b ≠ u.ownBlock) wr) l cs ∧ Inv p n k s1 sk l ∧ l.length = k
theorem Lp.set {α : Type} {sz : Nat} {T : TypeId} {F : (Nat → Prop) → World → α → List Value → Prop} (Fgo : ∀ (B B' : Nat → Prop) (w w' : World) (x : α) (cs : List Value), KeptB B w w' → (∀ b, B b → B' b) → F B w x cs → F B' w' x cs) {p : Pr α} {N n k X i : Nat} {s1 sk : St} {wr : World} {u v : Value} {l : List α} {cs : List Value}
    (h : Lp sz T F p N n k s1 wr u l cs sk) (hX : X < N) : Lp sz T F p N n k s1 (wr.setCell ⟨X, i, none⟩ v) u l cs sk := by
  obtain ⟨h1, h2, h3, h4⟩ := h
  refine ⟨cp_owns3 h1 (fun x hx => Below.heap_setCell _ _ _ _ (by have := (h1.lt x hx).1; show x ≠ X; omega)), h2.imp (fun x c hx => Fgo _ _ _ _ _ _ (fun a y hb ha => (World.cell?_of_block (Below.heap_setCell _ _ _ _ (by have := hb.1; show a.block ≠ X; omega))).trans ha) (fun b hb => hb) hx), h3, h4⟩
theorem Rf.set {bs : List UInt8} {R X i : Nat} {w : World} {s : St} {v : Value} (h : Rf bs R w s) (hX : R < X) : Rf bs R (w.setCell ⟨X, i, none⟩ v) s := h.keep (fun k _ hk => Below.heap_setCell _ _ _ _ (by show k ≠ X; omega))
theorem kept_set {B : Nat → Prop} {w : World} {X i : Nat} {v : Value} (h : ∀ b, B b → b ≠ X) : KeptB B w (w.setCell ⟨X, i, none⟩ v) := fun a y hb ha => (World.cell?_of_block (Below.heap_setCell _ _ _ _ (h a.block hb))).trans ha

set_option maxRecDepth 100000 in
set_option maxHeartbeats 16000000 in
theorem blockF_any (bs : List UInt8) (R : Nat) (w : World) (s : St) (hr : Rf bs R w s) (hbl : bs.length ≤ 1000000) :
    Calls Tryz.prog 34 #[.pointer (some ⟨R, 0, none⟩)] w (ToldQ bs R blkP VBlkB w s) := by
  have hlt := hr.lt
  obtain ⟨w1, hw1, hs1, hk1, hb1, -, -⟩ := named w #[.slice none 0 0, .slice none 0 0, .int .i64 0, .int .i64 0, .slice none 0 0] 63
  obtain ⟨w2, hw2, hs2, hk2, hb2, -, -⟩ := named w1 #[.slice none 0 0, .slice none 0 0, .int .i64 0, .int .i64 0, .slice none 0 0] 63
  have hX0 : w2.heap[w.heap.size]? = some (.cells #[.slice none 0 0, .slice none 0 0, .int .i64 0, .int .i64 0, .slice none 0 0] 63 (0, 0)) := by rw [hw2, hw1]; exact row_new2 w _ _
  have hX : w2.heap[w.heap.size + 1]? = some (.cells #[.slice none 0 0, .slice none 0 0, .int .i64 0, .int .i64 0, .slice none 0 0] 63 (0, 0)) := by rw [hw2, hw1]; exact row_new3 w _ _
  have hB2 : Below w.heap.size w w2 := hb1.trans (hb2.mono (by omega))
  have hr2 := hr.below hB2
  have HB2 := Lib.hid hB2
  obtain ⟨X0, hXe⟩ : ∃ X0, X0 = w.heap.size := ⟨_, rfl⟩
  obtain ⟨N, hN⟩ : ∃ N, N = w2.heap.size := ⟨_, rfl⟩
  have hNX : N = X0 + 2 := by omega
  go_enter Tryz.func34, Tryz.ntmps34
  go_upto_region 2 with fail
  rw [← hw1, ← hw2]
  rw [← hXe] at hX0 hX ⊢
  have HXE := Lib.hid hXe
  have HNE := Lib.hid hN
  have hRX : R < X0 := by omega
  have HX0 := Lib.hid hX0
  have HX := Lib.hid hX
  clear hw1 hs1 hk1 hb1 hw2 hs2 hk2 hb2 hB2 hr hXe hN hX0 hX
  go_wp2_with fail
  refine (manyF_any bs R 256 w2 s hr2 hbl (by omega)).mono ?_
  rintro e w3 ⟨v, n, s1, rfl, ⟨rfl, hn0, hn1⟩, ht, hr3, hb3⟩
  obtain ⟨n, rfl⟩ := Int.eq_ofNat_of_zero_le hn0
  have HT := Lib.hid ht
  have hn2 : n ≤ 256 := by omega
  have hN3 : N ≤ w3.heap.size := by have := hb3.size; have := HNE.out; omega
  have HX03 := Lib.hid ((hb3.block X0 (by have := HNE.out; omega) (by omega)).trans HX0.out)
  have HX3 := Lib.hid ((hb3.block (X0 + 1) (by have := HNE.out; omega) (by omega)).trans HX.out)
  have HB3 : Hid (BB X0 R w w3) := Lib.hid (by rw [HXE.out]; exact (BB.of_below HB2.out (Nat.le_refl _)).trans (hb3.mono (by have := HNE.out; have := HXE.out; omega)))
  have HR3 := Lib.hid hr3
  clear hn0 hn1 ht hb3 hr3 hr2
  go_wp2_with fail
  go_loopw [5] (fun i wr => ∃ (k : Nat) (l : List PhiD) (cs : List Value) (u : Value) (sk : St), k ≤ n ∧ i = .int .i64 k ∧ wr.heap[X0]? = some (.cells #[.slice none 0 0, .slice none 0 0, .int .i64 0, .int .i64 0, .slice none 0 0] 63 (0, 0)) ∧ wr.heap[X0 + 1]? = some (.cells #[u, .slice none 0 0, .int .i64 0, .int .i64 0, .slice none 0 0] 63 (0, 0)) ∧ Rf bs R wr sk ∧ N ≤ wr.heap.size ∧ Hid (BB X0 R w wr) ∧ Hid (Lp 2 67 CPhi phiP N n k s1 wr u l cs sk)) (fun i _ => n - (intOf i).toNat)
  case atStart => exact ⟨0, [], [], _, s1, Nat.zero_le _, rfl, HX03.out, HX3.out, HR3.out, hN3, HB3, Lib.hid ⟨World.ownsRow_nil _ _ _ _, rfl, Inv.zero _ _ _, rfl⟩⟩
  case round =>
    obtain ⟨wo, rfl⟩ : ∃ wo, wo = wr := ⟨wr, rfl⟩
    obtain ⟨k, l, cs, u, sk, hk, rfl, hx0, hx1, hrd, hNw, hbw, hlp⟩ := hrel
    by_cases hgo : k < n ∧ ∃ r, sk = .ok r
    · obtain ⟨hlt2, r, rfl⟩ := hgo
      have y2 := hrd.ok2
      obtain ⟨i0, p1, p2, p3, p4⟩ := info_parts Tryz.info67
      have HI := Lib.hid (And.intro p1 (And.intro p2 (And.intro p3 p4)))
      clear p1 p2 p3 p4
      go_wp2_with fail
      refine (numF_any bs R wo (.ok r) hrd hbl).mono ?_
      rintro e wa ⟨v1, d, sa, rfl, ⟨rfl, hd⟩, hta, hra, hba⟩
      have HTA := Lib.hid hta
      have HD := Lib.hid hd
      clear hta hd
      go_wp2_with fail
      refine (nums_any bs R wa sa hra hbl).mono ?_
      rintro e wb ⟨v2, ag, sb, rfl, ⟨Aa, ca, rfl, hag⟩, htb, hrb, hbb⟩
      have hsa := hba.size
      have hsb := hbb.size
      have hbab : BB wo.heap.size R wo wb := hba.trans (hbb.mono hsa)
      obtain ⟨hown, hrows, hinv, hlk⟩ := hlp.out
      have hown2 : wb.ownsRow N 67 2 u k cs := own_block hown (fun y hy => hbab.block y (hown.lt y hy).2 (by have := (hown.lt y hy).1; omega))
      have HXP : Hid (CPhi (fun b => wo.heap.size ≤ b) wb ⟨d, ag⟩ [.int .i64 d, .slice Aa ag.length ca]) := Lib.hid ⟨Aa, ca, rfl, SIntsB.go (KeptB.of (Kept.refl _)) (fun b hb => by omega) hag, i64_of_ok HD.out⟩
      have hx1b := (hbab.block (X0 + 1) (block_lt hx1) (by omega)).trans hx1
      have z0 := cell_of_block hx1b 0
      have HTP : Hid (ToldS phiP (.ok r) ⟨d, ag⟩ sb) := Lib.hid (HTA.out.and (htb.and (ToldS.ret _ _)))
      have hx1s := block_lt hx1b
      have hRN : R < N := by omega
      clear y2 htb hag hra
      go_wp2_with (at_builtin; refine wpList_append_lies _ rfl (.tmp 36) (.tmp 40) 58 rfl N 67 i0 (.agg #[.int .i64 0, .slice none 0 0]) 2 32 Tryz.underlying58 HI.out.1 HI.out.2.1 HI.out.2.2.1 HI.out.2.2.2 rfl (by decide) u k cs rfl (hown2.alloc _) ⟨wb.heap.size, 0, none⟩ 1 1 [.int .i64 d, .slice Aa ag.length ca] rfl rfl (news_cells wb #[.int .i64 d, .slice Aa ag.length ca] _ rfl) (by simp [Value.oneCell']) (by decide) (by unfold maxLen; omega) (by omega) (by simp; omega) (wb.heap.size + 1) (by simp) ?_; intro g cap wc hown3 hgr hloc hltg; obtain ⟨hr3, hb3, hrows3⟩ := rfl_step (n := k + 1) (cap := cap) (F := CPhi) (fun _ _ _ _ _ _ h1 h2 h3 => CPhi.go h1 h2 h3) (fun _ _ _ _ h => CPhi.lt h) hRN hNw hown hrows hbab hrb HXP.out rfl hgr hloc; have hx1c := (hb3.block (X0 + 1) (by omega) (by omega)).trans hx1; have z0 := cell_of_block hx1c 0; have zf := free_of_block hx1c 0)
      go_roundw
      case rel =>
        refine ⟨k + 1, l ++ [⟨d, ag⟩], _, _, sb, by omega, by go_num, (Below.heap_setCell _ _ _ _ (by show X0 ≠ X0 + 1; omega)).trans ((hb3.block X0 (by omega) (by omega)).trans hx0), set_of_block (i := 0) (.slice (some ⟨g, 0, none⟩) (k + 1) cap) hx1c, hr3.set (by omega), by simp; have := hb3.size; omega, Lib.hid ((hbw.out.trans (hb3.mono (by omega))).setCell (p := ⟨X0 + 1, 0, none⟩) (.inr (by show X0 ≤ X0 + 1; omega)) _), Lib.hid (Lp.set (F := CPhi) (X := X0 + 1) (i := 0) (fun _ _ _ _ _ _ h1 h2 h3 => CPhi.go h1 h2 h3) ⟨hown3, hrows3, hinv.next hlt2 HTP.out, by rw [List.length_append, hlk]; rfl⟩ (by omega))⟩
      case measure => simp [intOf]; omega
    · have hex : (k = n) ∨ (k < n ∧ ∃ c' n', sk = .bad c' n') := by
        by_cases h : k < n
        · right
          refine ⟨h, ?_⟩
          cases sk with
          | ok r => exact absurd ⟨h, r, rfl⟩ hgo
          | bad c' n' => exact ⟨_, _, rfl⟩
        · left; omega
      obtain ⟨hown, hrows, hinv, hlk⟩ := hlp.out
      obtain ⟨Ap, cp, hu, hsp⟩ : VS wo 2 (RPhiB (fun b => N ≤ b)) u l := Rows.reads (R := RPhiB (fun b => N ≤ b)) (hrows.imp (fun y d hy => CPhi.go (KeptB.of (Kept.refl _)) (fun b hb => hb.1) hy)) (by rw [hlk]; exact hown) (fun g o y d hg hb hF hl hc => CPhi.reads (B := fun b => N ≤ b) hb hF hc)
      subst hu
      have HTL : Hid (ToldS (listP phiP 256) s l sk) := Lib.hid (told_list HT.out (by
        rcases hex with rfl | ⟨_, c', n', rfl⟩
        · exact hinv.done
        · exact hinv.bad _))
      have HSP := Lib.hid hsp
      clear hgo hown hrows hinv hlk hsp
      rcases hex with hkn | ⟨hkn, c', n', hsk⟩
      · have hkn' : ¬ k < n := by omega
        go_upto_region 9 with fail
        have hx0lt := block_lt hx0
        have hx1lt := block_lt hx1
        have hNw1 := hNw
        go_wp2_with fail
        refine (manyF_any bs R 256 wo sk hrd hbl (by omega)).mono ?_
        rintro e w4 ⟨v, n2, s3, rfl, ⟨rfl, hm0, hm1⟩, ht2, hr4, hb4⟩
        obtain ⟨n2, rfl⟩ := Int.eq_ofNat_of_zero_le hm0
        have HT2 := Lib.hid ht2
        have hn22 : n2 ≤ 256 := by omega
        obtain ⟨N2, hN2⟩ : ∃ N2, N2 = w4.heap.size := ⟨_, rfl⟩
        have hNN2 : N ≤ N2 := by have := hb4.size; omega
        have HX04 := Lib.hid ((hb4.block X0 hx0lt (by omega)).trans hx0)
        have HX14 := Lib.hid ((hb4.block (X0 + 1) hx1lt (by omega)).trans hx1)
        have HR4 := Lib.hid hr4
        have HB4 : Hid (BB X0 R w w4) := Lib.hid (hbw.out.trans (hb4.mono (by omega)))
        have HPH4 : Hid (SL w4 2 (RPhiB (fun b => N ≤ b ∧ b < N2)) Ap cp l) := Lib.hid (SL.imp (RPhiB.go (B := fun b => N ≤ b ∧ b < wo.heap.size) (hb4.kept.mono (fun b hb => ⟨hb.2, by omega⟩)) (fun b hb => ⟨hb.1, by have := hb4.size; omega⟩)) (SPhisB.lt HSP.out))
        have HN2 := Lib.hid hN2
        clear hm0 hm1 ht2 hr4 hb4 hx0 hx1 hN2
        go_wp2_with fail
        go_loopw [8] (fun i wr => ∃ (k2 : Nat) (l2 : List InsD) (cs2 : List Value) (u2 : Value) (sk2 : St), k2 ≤ n2 ∧ i = .int .i64 k2 ∧ wr.heap[X0]? = some (.cells #[.slice none 0 0, .slice none 0 0, .int .i64 0, .int .i64 0, .slice none 0 0] 63 (0, 0)) ∧ wr.heap[X0 + 1]? = some (.cells #[.slice Ap l.length cp, u2, .int .i64 0, .int .i64 0, .slice none 0 0] 63 (0, 0)) ∧ Rf bs R wr sk2 ∧ N2 ≤ wr.heap.size ∧ Hid (BB X0 R w wr) ∧ Hid (Lp 5 65 CIns insP N2 n2 k2 s3 wr u2 l2 cs2 sk2) ∧ Hid (SL wr 2 (RPhiB (fun b => N ≤ b ∧ b < N2)) Ap cp l)) (fun i _ => n2 - (intOf i).toNat)
        case atStart => exact ⟨0, [], [], _, s3, Nat.zero_le _, rfl, HX04.out, HX14.out, HR4.out, by rw [HN2.out]; exact Nat.le_refl _, HB4, Lib.hid ⟨World.ownsRow_nil _ _ _ _, rfl, Inv.zero _ _ _, rfl⟩, HPH4⟩
        case round =>
          obtain ⟨wo, rfl⟩ : ∃ wo, wo = wr := ⟨wr, rfl⟩
          obtain ⟨k2, l2, cs2, u2, sk2, hk2, rfl, hx0, hx1, hrd2, hNw2, hbw2, hlp2, hph2⟩ := hrel
          by_cases hgo : k2 < n2 ∧ ∃ r, sk2 = .ok r
          · obtain ⟨hlt2, r, rfl⟩ := hgo
            have y2 := hrd2.ok2
            obtain ⟨i0, p1, p2, p3, p4⟩ := info_parts Tryz.info65
            have HI := Lib.hid (And.intro p1 (And.intro p2 (And.intro p3 p4)))
            clear p1 p2 p3 p4
            go_wp2_with fail
            refine (numF_any bs R wo (.ok r) hrd2 hbl).mono ?_
            rintro e wa ⟨v1, op, sa, rfl, ⟨rfl, hop⟩, hta, hra, hba⟩
            have HTA := Lib.hid hta
            have HOP := Lib.hid hop
            clear hta hop
            go_wp2_with fail
            refine (numF_any bs R wa sa hra hbl).mono ?_
            rintro e wb ⟨v2, dd, sb, rfl, ⟨rfl, hdd⟩, htb, hrb, hbb⟩
            have HTB := Lib.hid htb
            have HDD := Lib.hid hdd
            have hdd0 := hdd.1
            have hdd1 := hdd.2
            clear htb hdd
            go_wp2_with fail
            refine (nums_any bs R wb sb hrb hbl).mono ?_
            rintro e wc ⟨v3, ag, sc, rfl, ⟨Aa, ca, rfl, hag⟩, htc, hrc, hbc⟩
            have HTC := Lib.hid htc
            have HAG := Lib.hid hag
            clear htc hag
            go_wp2_with fail
            refine (signF_any bs R wc sc hrc hbl).mono ?_
            rintro e wd ⟨v4, im, sd, rfl, ⟨rfl, him⟩, htd, hrd4, hbd⟩
            have HTD := Lib.hid htd
            have HIM := Lib.hid him
            clear htd him
            go_wp2_with fail
            refine (numF_any bs R wd sd hrd4 hbl).mono ?_
            rintro e we ⟨v5, fn, se, rfl, ⟨rfl, hfn⟩, hte, hre, hbe⟩
            have HFN := Lib.hid hfn
            have hsa := hba.size
            have hsb := hbb.size
            have hsc := hbc.size
            have hsd := hbd.size
            have hse := hbe.size
            have hbae : BB wo.heap.size R wo we := (((hba.trans (hbb.mono hsa)).trans (hbc.mono (by omega))).trans (hbd.mono (by omega))).trans (hbe.mono (by omega))
            obtain ⟨hown, hrows, hinv, hlk⟩ := hlp2.out
            have hown2 : we.ownsRow N2 65 5 u2 k2 cs2 := own_block hown (fun y hy => hbae.block y (hown.lt y hy).2 (by have := (hown.lt y hy).1; omega))
            have hce : KeptB (fun b => wb.heap.size ≤ b ∧ b < wc.heap.size) wc we := (hbd.kept.mono (fun b hb => ⟨hb.2, by have := hrc.lt; have := hrd2.lt; omega⟩)).trans (hbe.kept.mono (fun b hb => ⟨by omega, by have := hrd2.lt; omega⟩))
            have HXP : Hid (CIns (fun b => wo.heap.size ≤ b) we ⟨op, dd - 1, ag, zag im, fn⟩ [.int .i64 op, .int .i64 (dd - 1), .slice Aa ag.length ca, .int .i64 (zag im), .int .i64 fn]) := Lib.hid ⟨Aa, ca, rfl, SIntsB.go hce (fun b hb => by omega) (SIntsB.lt HAG.out), i64_of_ok HOP.out, i64_of_ok1 HDD.out, zag_i64 HIM.out, i64_of_ok HFN.out⟩
            have hx1b := (hbae.block (X0 + 1) (block_lt hx1) (by omega)).trans hx1
            have z1 := cell_of_block hx1b 1
            have HTP : Hid (ToldS insP (.ok r) ⟨op, dd - 1, ag, zag im, fn⟩ se) := Lib.hid (HTA.out.and (HTB.out.and (HTC.out.and (HTD.out.and (hte.and (ToldS.ret _ _))))))
            have hx1s := block_lt hx1b
            have hRN2 : R < N2 := by omega
            clear y2 hte hra hrb hrc hrd4 hfn
            go_wp2_with (at_builtin; refine wpList_append_lies _ rfl (.tmp 68) (.tmp 76) 59 rfl N2 65 i0 (.agg #[.int .i64 0, .int .i64 0, .slice none 0 0, .int .i64 0, .int .i64 0]) 5 56 Tryz.underlying59 HI.out.1 HI.out.2.1 HI.out.2.2.1 HI.out.2.2.2 rfl (by decide) u2 k2 cs2 rfl (hown2.alloc _) ⟨we.heap.size, 0, none⟩ 1 1 [.int .i64 op, .int .i64 (dd - 1), .slice Aa ag.length ca, .int .i64 (zag im), .int .i64 fn] rfl rfl (news_cells we #[.int .i64 op, .int .i64 (dd - 1), .slice Aa ag.length ca, .int .i64 (zag im), .int .i64 fn] _ rfl) (by simp [Value.oneCell']) (by decide) (by unfold maxLen; omega) (by omega) (by simp; omega) (we.heap.size + 1) (by simp) ?_; intro g cap wf hown3 hgr hloc hltg; obtain ⟨hr3, hb3, hrows3⟩ := rfl_step (n := k2 + 1) (cap := cap) (F := CIns) (fun _ _ _ _ _ _ h1 h2 h3 => CIns.go h1 h2 h3) (fun _ _ _ _ h => CIns.lt h) hRN2 hNw2 hown hrows hbae hre HXP.out rfl hgr hloc; have hx1c := (hb3.block (X0 + 1) (by omega) (by omega)).trans hx1; have z1 := cell_of_block hx1c 1; have zf := free_of_block hx1c 1)
            go_roundw
            case rel =>
              refine ⟨k2 + 1, l2 ++ [⟨op, dd - 1, ag, zag im, fn⟩], _, _, se, by omega, by go_num, (Below.heap_setCell _ _ _ _ (by show X0 ≠ X0 + 1; omega)).trans ((hb3.block X0 (by omega) (by omega)).trans hx0), set_of_block (i := 1) (.slice (some ⟨g, 0, none⟩) (k2 + 1) cap) hx1c, hr3.set (by omega), by simp; have := hb3.size; omega, Lib.hid ((hbw2.out.trans (hb3.mono (by omega))).setCell (p := ⟨X0 + 1, 1, none⟩) (.inr (by show X0 ≤ X0 + 1; omega)) _), Lib.hid (Lp.set (F := CIns) (X := X0 + 1) (i := 1) (fun _ _ _ _ _ _ h1 h2 h3 => CIns.go h1 h2 h3) ⟨hown3, hrows3, hinv.next hlt2 HTP.out, by rw [List.length_append, hlk]; rfl⟩ (by omega)), Lib.hid ?_⟩
              exact SL.imp (RPhiB.go (B := fun b => N ≤ b ∧ b < N2) ((hb3.kept.mono (fun b hb => ⟨hb.2, by omega⟩)).trans (kept_set (fun b hb => by have := hb.1; omega))) (fun b hb => hb)) hph2.out
            case measure => simp [intOf]; omega
          · have hex : (k2 = n2) ∨ (k2 < n2 ∧ ∃ c' n', sk2 = .bad c' n') := by
              by_cases h : k2 < n2
              · right
                refine ⟨h, ?_⟩
                cases sk2 with
                | ok r => exact absurd ⟨h, r, rfl⟩ hgo
                | bad c' n' => exact ⟨_, _, rfl⟩
              · left; omega
            obtain ⟨hown, hrows, hinv, hlk⟩ := hlp2.out
            obtain ⟨Ai, ci, hu, hsp⟩ : VS wo 5 (RInsB (fun b => N2 ≤ b)) u2 l2 := Rows.reads (R := RInsB (fun b => N2 ≤ b)) (hrows.imp (fun y d hy => CIns.go (KeptB.of (Kept.refl _)) (fun b hb => hb.1) hy)) (by rw [hlk]; exact hown) (fun g o y d hg hb hF hl hc => CIns.reads (B := fun b => N2 ≤ b) hb hF hc)
            subst hu
            have HTL2 : Hid (ToldS (listP insP 256) sk l2 sk2) := Lib.hid (told_list HT2.out (by
              rcases hex with rfl | ⟨_, c', n', rfl⟩
              · exact hinv.done
              · exact hinv.bad _))
            have HSP2 := Lib.hid hsp
            clear hgo hown hrows hinv hlk hsp
            rcases hex with hkn | ⟨hkn, c', n', hsk⟩
            · have hkn' : ¬ k2 < n2 := by omega
              go_upto_region 19 with fail
              have hx0lt := block_lt hx0
              have hx1lt := block_lt hx1
              go_wp2_with fail
              refine (numF_any bs R wo sk2 hrd2 hbl).mono ?_
              rintro e wa ⟨v1, tk, sa, rfl, ⟨rfl, htk⟩, hta, hra, hba⟩
              have HTA := Lib.hid hta
              have HTK := Lib.hid htk
              clear hta htk
              go_wp2_with fail
              refine (numF_any bs R wa sa hra hbl).mono ?_
              rintro e wb ⟨v2, ta, sb, rfl, ⟨rfl, hta⟩, htb, hrb, hbb⟩
              have HTB := Lib.hid htb
              have HTAA := Lib.hid hta
              have hta0 := hta.1
              have hta1 := hta.2
              clear htb hta
              go_wp2_with fail
              refine (nums_any bs R wb sb hrb hbl).mono ?_
              rintro e wc ⟨v3, tt, sc, rfl, ⟨At, ct, rfl, hto⟩, htc, hrc, hbc⟩
              have hsa := hba.size
              have hsb := hbb.size
              have hsc := hbc.size
              have hbabc : BB wo.heap.size R wo wc := (hba.trans (hbb.mono hsa)).trans (hbc.mono (by omega))
              have hx1c := (hbabc.block (X0 + 1) hx1lt (by omega)).trans hx1
              have hx0c := (hbabc.block X0 hx0lt (by omega)).trans hx0
              have hterm : ToldS termP sk2 ⟨tk, ta - 1, tt⟩ sc := HTA.out.and (HTB.out.and (ToldS.and (q := fun t => retP (⟨tk, ta - 1, t⟩ : TermD)) htc (ToldS.ret _ _)))
              have HALL : Hid (ToldS blkP s ⟨l, l2, ⟨tk, ta - 1, tt⟩⟩ sc) := Lib.hid (HTL.out.and (HTL2.out.and (ToldS.and (q := fun t => retP (⟨l, l2, t⟩ : BlkD)) hterm (ToldS.ret _ _))))
              clear hterm
              have hP := SL.imp (RPhiB.go (B := fun b => N ≤ b ∧ b < N2) (B' := fun b => N ≤ b) (hbabc.kept.mono (fun b hb => ⟨by have := hNw2; omega, by omega⟩)) (fun b hb => hb.1)) hph2.out
              have hI := SL.imp (RInsB.go (B := fun b => N2 ≤ b ∧ b < wo.heap.size) (B' := fun b => N ≤ b) (hbabc.kept.mono (fun b hb => ⟨hb.2, by omega⟩)) (fun b hb => by omega)) (SInssB.lt HSP2.out)
              have c0 := cell_of_block hx1c 0
              have c1 := cell_of_block hx1c 1
              have c2 := cell_of_block hx1c 2
              have c3 := cell_of_block hx1c 3
              have c4 := cell_of_block hx1c 4
              have e2 := free_of_block hx1c 2
              have e3 := free_of_block hx1c 3
              have e4 := free_of_block hx1c 4
              have d0 := cell_of_block hx0c 0
              have d1 := cell_of_block hx0c 1
              have d2 := cell_of_block hx0c 2
              have d3 := cell_of_block hx0c 3
              have d4 := cell_of_block hx0c 4
              have g0 := free_of_block hx0c 0
              have g1 := free_of_block hx0c 1
              have g2 := free_of_block hx0c 2
              have g3 := free_of_block hx0c 3
              have g4 := free_of_block hx0c 4
              have hne : X0 ≠ X0 + 1 := by omega
              have hne' : X0 + 1 ≠ X0 := by omega
              have HX0C := Lib.hid hx0c
              have HHP := Lib.hid hP
              have HHI := Lib.hid hI
              have HTO := Lib.hid hto
              have HRC := Lib.hid hrc
              have HBC : Hid (BB X0 R w wc) := Lib.hid (hbw2.out.trans (hbabc.mono (by omega)))
              clear hx0c hx1c hP hI hto hrc hbabc hba hbb hbc htc hra hrb
              go_wp2_with fail
              have hW1 : (((wc.setCell ⟨X0 + 1, 2, none⟩ (.int .i64 tk)).setCell ⟨X0 + 1, 3, none⟩ (.int .i64 (ta - 1))).setCell ⟨X0 + 1, 4, none⟩ (.slice At tt.length ct)).heap[X0]? = some (.cells #[.slice none 0 0, .slice none 0 0, .int .i64 0, .int .i64 0, .slice none 0 0] 63 (0, 0)) :=
                ((Below.heap_setCell _ _ _ _ hne).trans (Below.heap_setCell _ _ _ _ hne)).trans ((Below.heap_setCell _ _ _ _ hne).trans HX0C.out)
              have S5 := sets5 hW1 (.slice Ap l.length cp) (.slice Ai l2.length ci) (.int .i64 tk) (.int .i64 (ta - 1)) (.slice At tt.length ct)
              have hW2 : ∀ y, y ≠ X0 + 1 → (((wc.setCell ⟨X0 + 1, 2, none⟩ (.int .i64 tk)).setCell ⟨X0 + 1, 3, none⟩ (.int .i64 (ta - 1))).setCell ⟨X0 + 1, 4, none⟩ (.slice At tt.length ct)).heap[y]? = wc.heap[y]? := fun y hy =>
                ((Below.heap_setCell _ _ _ _ hy).trans (Below.heap_setCell _ _ _ _ hy)).trans (Below.heap_setCell _ _ _ _ hy)
              have hBF := (((HBC.out.setCell (p := ⟨X0 + 1, 2, none⟩) (.inr (by show X0 ≤ X0 + 1; omega)) (.int .i64 tk)).setCell (p := ⟨X0 + 1, 3, none⟩) (.inr (by show X0 ≤ X0 + 1; omega)) (.int .i64 (ta - 1))).setCell (p := ⟨X0 + 1, 4, none⟩) (.inr (by show X0 ≤ X0 + 1; omega)) (.slice At tt.length ct))
              have hBG := S5.bb hBF (Nat.le_refl _)
              refine bodyPost_ret (results_cell_row rfl _ _ X0 63 #[.slice Ap l.length cp, .slice Ai l2.length ci, .int .i64 tk, .int .i64 (ta - 1), .slice At tt.length ct] (0, 0) _ (by rfl) S5.blk Tryz.underlying63 (by rfl) (by kernel_rfl)) rfl ?_
              have hkF := fun (a : Addr) (y : Value) (h1 : a.block ≠ X0) (h2 : a.block ≠ X0 + 1) ha => (World.cell?_of_block ((S5.other a.block h1).trans (hW2 a.block h2))).trans (ha : wc.cell? a = some y)
              have hKN : KeptB (fun b => N ≤ b) wc _ := fun a y hb ha => hkF a y (by omega) (by omega) ha
              have hX0w := HXE.out
              refine ⟨_, ⟨l, l2, ⟨tk, ta - 1, tt⟩⟩, sc, rfl, ⟨Ap, cp, Ai, ci, At, ct, rfl, ?_, ?_, ?_, i64_of_ok HTK.out, i64_of_ok1 HTAA.out⟩, HALL.out, HRC.out.keep (fun y _ hy => (S5.other y (by omega)).trans (hW2 y (by omega))), by rw [← HXE.out]; exact hBG⟩
              · exact SL.imp (RPhiB.go (B := fun b => N ≤ b) hKN (fun b hb => by omega)) HHP.out
              · exact SL.imp (RInsB.go (B := fun b => N ≤ b) hKN (fun b hb => by omega)) HHI.out
              · exact SIntsB.go (hKN.mono (fun b hb => by omega)) (fun b hb => by omega) HTO.out
            · obtain ⟨y2, y3, y4⟩ := (show Rf bs R wo (.bad c' n') from hsk ▸ hrd2).bad2
              go_upto_region 19 with fail
              have hx0lt := block_lt hx0
              have hx1lt := block_lt hx1
              go_wp2_with fail
              refine (numF_any bs R wo sk2 hrd2 hbl).mono ?_
              rintro e wa ⟨v1, tk, sa, rfl, ⟨rfl, htk⟩, hta, hra, hba⟩
              have HTA := Lib.hid hta
              have HTK := Lib.hid htk
              clear hta htk
              go_wp2_with fail
              refine (numF_any bs R wa sa hra hbl).mono ?_
              rintro e wb ⟨v2, ta, sb, rfl, ⟨rfl, hta⟩, htb, hrb, hbb⟩
              have HTB := Lib.hid htb
              have HTAA := Lib.hid hta
              have hta0 := hta.1
              have hta1 := hta.2
              clear htb hta
              go_wp2_with fail
              refine (nums_any bs R wb sb hrb hbl).mono ?_
              rintro e wc ⟨v3, tt, sc, rfl, ⟨At, ct, rfl, hto⟩, htc, hrc, hbc⟩
              have hsa := hba.size
              have hsb := hbb.size
              have hsc := hbc.size
              have hbabc : BB wo.heap.size R wo wc := (hba.trans (hbb.mono hsa)).trans (hbc.mono (by omega))
              have hx1c := (hbabc.block (X0 + 1) hx1lt (by omega)).trans hx1
              have hx0c := (hbabc.block X0 hx0lt (by omega)).trans hx0
              have hterm : ToldS termP sk2 ⟨tk, ta - 1, tt⟩ sc := HTA.out.and (HTB.out.and (ToldS.and (q := fun t => retP (⟨tk, ta - 1, t⟩ : TermD)) htc (ToldS.ret _ _)))
              have HALL : Hid (ToldS blkP s ⟨l, l2, ⟨tk, ta - 1, tt⟩⟩ sc) := Lib.hid (HTL.out.and (HTL2.out.and (ToldS.and (q := fun t => retP (⟨l, l2, t⟩ : BlkD)) hterm (ToldS.ret _ _))))
              clear hterm
              have hP := SL.imp (RPhiB.go (B := fun b => N ≤ b ∧ b < N2) (B' := fun b => N ≤ b) (hbabc.kept.mono (fun b hb => ⟨by have := hNw2; omega, by omega⟩)) (fun b hb => hb.1)) hph2.out
              have hI := SL.imp (RInsB.go (B := fun b => N2 ≤ b ∧ b < wo.heap.size) (B' := fun b => N ≤ b) (hbabc.kept.mono (fun b hb => ⟨hb.2, by omega⟩)) (fun b hb => by omega)) (SInssB.lt HSP2.out)
              have c0 := cell_of_block hx1c 0
              have c1 := cell_of_block hx1c 1
              have c2 := cell_of_block hx1c 2
              have c3 := cell_of_block hx1c 3
              have c4 := cell_of_block hx1c 4
              have e2 := free_of_block hx1c 2
              have e3 := free_of_block hx1c 3
              have e4 := free_of_block hx1c 4
              have d0 := cell_of_block hx0c 0
              have d1 := cell_of_block hx0c 1
              have d2 := cell_of_block hx0c 2
              have d3 := cell_of_block hx0c 3
              have d4 := cell_of_block hx0c 4
              have g0 := free_of_block hx0c 0
              have g1 := free_of_block hx0c 1
              have g2 := free_of_block hx0c 2
              have g3 := free_of_block hx0c 3
              have g4 := free_of_block hx0c 4
              have hne : X0 ≠ X0 + 1 := by omega
              have hne' : X0 + 1 ≠ X0 := by omega
              have HX0C := Lib.hid hx0c
              have HHP := Lib.hid hP
              have HHI := Lib.hid hI
              have HTO := Lib.hid hto
              have HRC := Lib.hid hrc
              have HBC : Hid (BB X0 R w wc) := Lib.hid (hbw2.out.trans (hbabc.mono (by omega)))
              clear hx0c hx1c hP hI hto hrc hbabc hba hbb hbc htc hra hrb
              go_wp2_with fail
              have hW1 : (((wc.setCell ⟨X0 + 1, 2, none⟩ (.int .i64 tk)).setCell ⟨X0 + 1, 3, none⟩ (.int .i64 (ta - 1))).setCell ⟨X0 + 1, 4, none⟩ (.slice At tt.length ct)).heap[X0]? = some (.cells #[.slice none 0 0, .slice none 0 0, .int .i64 0, .int .i64 0, .slice none 0 0] 63 (0, 0)) :=
                ((Below.heap_setCell _ _ _ _ hne).trans (Below.heap_setCell _ _ _ _ hne)).trans ((Below.heap_setCell _ _ _ _ hne).trans HX0C.out)
              have S5 := sets5 hW1 (.slice Ap l.length cp) (.slice Ai l2.length ci) (.int .i64 tk) (.int .i64 (ta - 1)) (.slice At tt.length ct)
              have hW2 : ∀ y, y ≠ X0 + 1 → (((wc.setCell ⟨X0 + 1, 2, none⟩ (.int .i64 tk)).setCell ⟨X0 + 1, 3, none⟩ (.int .i64 (ta - 1))).setCell ⟨X0 + 1, 4, none⟩ (.slice At tt.length ct)).heap[y]? = wc.heap[y]? := fun y hy =>
                ((Below.heap_setCell _ _ _ _ hy).trans (Below.heap_setCell _ _ _ _ hy)).trans (Below.heap_setCell _ _ _ _ hy)
              have hBF := (((HBC.out.setCell (p := ⟨X0 + 1, 2, none⟩) (.inr (by show X0 ≤ X0 + 1; omega)) (.int .i64 tk)).setCell (p := ⟨X0 + 1, 3, none⟩) (.inr (by show X0 ≤ X0 + 1; omega)) (.int .i64 (ta - 1))).setCell (p := ⟨X0 + 1, 4, none⟩) (.inr (by show X0 ≤ X0 + 1; omega)) (.slice At tt.length ct))
              have hBG := S5.bb hBF (Nat.le_refl _)
              refine bodyPost_ret (results_cell_row rfl _ _ X0 63 #[.slice Ap l.length cp, .slice Ai l2.length ci, .int .i64 tk, .int .i64 (ta - 1), .slice At tt.length ct] (0, 0) _ (by rfl) S5.blk Tryz.underlying63 (by rfl) (by kernel_rfl)) rfl ?_
              have hkF := fun (a : Addr) (y : Value) (h1 : a.block ≠ X0) (h2 : a.block ≠ X0 + 1) ha => (World.cell?_of_block ((S5.other a.block h1).trans (hW2 a.block h2))).trans (ha : wc.cell? a = some y)
              have hKN : KeptB (fun b => N ≤ b) wc _ := fun a y hb ha => hkF a y (by omega) (by omega) ha
              have hX0w := HXE.out
              refine ⟨_, ⟨l, l2, ⟨tk, ta - 1, tt⟩⟩, sc, rfl, ⟨Ap, cp, Ai, ci, At, ct, rfl, ?_, ?_, ?_, i64_of_ok HTK.out, i64_of_ok1 HTAA.out⟩, HALL.out, HRC.out.keep (fun y _ hy => (S5.other y (by omega)).trans (hW2 y (by omega))), by rw [← HXE.out]; exact hBG⟩
              · exact SL.imp (RPhiB.go (B := fun b => N ≤ b) hKN (fun b hb => by omega)) HHP.out
              · exact SL.imp (RInsB.go (B := fun b => N ≤ b) hKN (fun b hb => by omega)) HHI.out
              · exact SIntsB.go (hKN.mono (fun b hb => by omega)) (fun b hb => by omega) HTO.out
      · obtain ⟨y2, y3, y4⟩ := (show Rf bs R wo (.bad c' n') from hsk ▸ hrd).bad2
        go_upto_region 9 with fail
        have hx0lt := block_lt hx0
        have hx1lt := block_lt hx1
        have hNw1 := hNw
        go_wp2_with fail
        refine (manyF_any bs R 256 wo sk hrd hbl (by omega)).mono ?_
        rintro e w4 ⟨v, n2, s3, rfl, ⟨rfl, hm0, hm1⟩, ht2, hr4, hb4⟩
        obtain ⟨n2, rfl⟩ := Int.eq_ofNat_of_zero_le hm0
        have HT2 := Lib.hid ht2
        have hn22 : n2 ≤ 256 := by omega
        obtain ⟨N2, hN2⟩ : ∃ N2, N2 = w4.heap.size := ⟨_, rfl⟩
        have hNN2 : N ≤ N2 := by have := hb4.size; omega
        have HX04 := Lib.hid ((hb4.block X0 hx0lt (by omega)).trans hx0)
        have HX14 := Lib.hid ((hb4.block (X0 + 1) hx1lt (by omega)).trans hx1)
        have HR4 := Lib.hid hr4
        have HB4 : Hid (BB X0 R w w4) := Lib.hid (hbw.out.trans (hb4.mono (by omega)))
        have HPH4 : Hid (SL w4 2 (RPhiB (fun b => N ≤ b ∧ b < N2)) Ap cp l) := Lib.hid (SL.imp (RPhiB.go (B := fun b => N ≤ b ∧ b < wo.heap.size) (hb4.kept.mono (fun b hb => ⟨hb.2, by omega⟩)) (fun b hb => ⟨hb.1, by have := hb4.size; omega⟩)) (SPhisB.lt HSP.out))
        have HN2 := Lib.hid hN2
        clear hm0 hm1 ht2 hr4 hb4 hx0 hx1 hN2
        go_wp2_with fail
        go_loopw [8] (fun i wr => ∃ (k2 : Nat) (l2 : List InsD) (cs2 : List Value) (u2 : Value) (sk2 : St), k2 ≤ n2 ∧ i = .int .i64 k2 ∧ wr.heap[X0]? = some (.cells #[.slice none 0 0, .slice none 0 0, .int .i64 0, .int .i64 0, .slice none 0 0] 63 (0, 0)) ∧ wr.heap[X0 + 1]? = some (.cells #[.slice Ap l.length cp, u2, .int .i64 0, .int .i64 0, .slice none 0 0] 63 (0, 0)) ∧ Rf bs R wr sk2 ∧ N2 ≤ wr.heap.size ∧ Hid (BB X0 R w wr) ∧ Hid (Lp 5 65 CIns insP N2 n2 k2 s3 wr u2 l2 cs2 sk2) ∧ Hid (SL wr 2 (RPhiB (fun b => N ≤ b ∧ b < N2)) Ap cp l)) (fun i _ => n2 - (intOf i).toNat)
        case atStart => exact ⟨0, [], [], _, s3, Nat.zero_le _, rfl, HX04.out, HX14.out, HR4.out, by rw [HN2.out]; exact Nat.le_refl _, HB4, Lib.hid ⟨World.ownsRow_nil _ _ _ _, rfl, Inv.zero _ _ _, rfl⟩, HPH4⟩
        case round =>
          obtain ⟨wo, rfl⟩ : ∃ wo, wo = wr := ⟨wr, rfl⟩
          obtain ⟨k2, l2, cs2, u2, sk2, hk2, rfl, hx0, hx1, hrd2, hNw2, hbw2, hlp2, hph2⟩ := hrel
          by_cases hgo : k2 < n2 ∧ ∃ r, sk2 = .ok r
          · obtain ⟨hlt2, r, rfl⟩ := hgo
            have y2 := hrd2.ok2
            obtain ⟨i0, p1, p2, p3, p4⟩ := info_parts Tryz.info65
            have HI := Lib.hid (And.intro p1 (And.intro p2 (And.intro p3 p4)))
            clear p1 p2 p3 p4
            go_wp2_with fail
            refine (numF_any bs R wo (.ok r) hrd2 hbl).mono ?_
            rintro e wa ⟨v1, op, sa, rfl, ⟨rfl, hop⟩, hta, hra, hba⟩
            have HTA := Lib.hid hta
            have HOP := Lib.hid hop
            clear hta hop
            go_wp2_with fail
            refine (numF_any bs R wa sa hra hbl).mono ?_
            rintro e wb ⟨v2, dd, sb, rfl, ⟨rfl, hdd⟩, htb, hrb, hbb⟩
            have HTB := Lib.hid htb
            have HDD := Lib.hid hdd
            have hdd0 := hdd.1
            have hdd1 := hdd.2
            clear htb hdd
            go_wp2_with fail
            refine (nums_any bs R wb sb hrb hbl).mono ?_
            rintro e wc ⟨v3, ag, sc, rfl, ⟨Aa, ca, rfl, hag⟩, htc, hrc, hbc⟩
            have HTC := Lib.hid htc
            have HAG := Lib.hid hag
            clear htc hag
            go_wp2_with fail
            refine (signF_any bs R wc sc hrc hbl).mono ?_
            rintro e wd ⟨v4, im, sd, rfl, ⟨rfl, him⟩, htd, hrd4, hbd⟩
            have HTD := Lib.hid htd
            have HIM := Lib.hid him
            clear htd him
            go_wp2_with fail
            refine (numF_any bs R wd sd hrd4 hbl).mono ?_
            rintro e we ⟨v5, fn, se, rfl, ⟨rfl, hfn⟩, hte, hre, hbe⟩
            have HFN := Lib.hid hfn
            have hsa := hba.size
            have hsb := hbb.size
            have hsc := hbc.size
            have hsd := hbd.size
            have hse := hbe.size
            have hbae : BB wo.heap.size R wo we := (((hba.trans (hbb.mono hsa)).trans (hbc.mono (by omega))).trans (hbd.mono (by omega))).trans (hbe.mono (by omega))
            obtain ⟨hown, hrows, hinv, hlk⟩ := hlp2.out
            have hown2 : we.ownsRow N2 65 5 u2 k2 cs2 := own_block hown (fun y hy => hbae.block y (hown.lt y hy).2 (by have := (hown.lt y hy).1; omega))
            have hce : KeptB (fun b => wb.heap.size ≤ b ∧ b < wc.heap.size) wc we := (hbd.kept.mono (fun b hb => ⟨hb.2, by have := hrc.lt; have := hrd2.lt; omega⟩)).trans (hbe.kept.mono (fun b hb => ⟨by omega, by have := hrd2.lt; omega⟩))
            have HXP : Hid (CIns (fun b => wo.heap.size ≤ b) we ⟨op, dd - 1, ag, zag im, fn⟩ [.int .i64 op, .int .i64 (dd - 1), .slice Aa ag.length ca, .int .i64 (zag im), .int .i64 fn]) := Lib.hid ⟨Aa, ca, rfl, SIntsB.go hce (fun b hb => by omega) (SIntsB.lt HAG.out), i64_of_ok HOP.out, i64_of_ok1 HDD.out, zag_i64 HIM.out, i64_of_ok HFN.out⟩
            have hx1b := (hbae.block (X0 + 1) (block_lt hx1) (by omega)).trans hx1
            have z1 := cell_of_block hx1b 1
            have HTP : Hid (ToldS insP (.ok r) ⟨op, dd - 1, ag, zag im, fn⟩ se) := Lib.hid (HTA.out.and (HTB.out.and (HTC.out.and (HTD.out.and (hte.and (ToldS.ret _ _))))))
            have hx1s := block_lt hx1b
            have hRN2 : R < N2 := by omega
            clear y2 hte hra hrb hrc hrd4 hfn
            go_wp2_with (at_builtin; refine wpList_append_lies _ rfl (.tmp 68) (.tmp 76) 59 rfl N2 65 i0 (.agg #[.int .i64 0, .int .i64 0, .slice none 0 0, .int .i64 0, .int .i64 0]) 5 56 Tryz.underlying59 HI.out.1 HI.out.2.1 HI.out.2.2.1 HI.out.2.2.2 rfl (by decide) u2 k2 cs2 rfl (hown2.alloc _) ⟨we.heap.size, 0, none⟩ 1 1 [.int .i64 op, .int .i64 (dd - 1), .slice Aa ag.length ca, .int .i64 (zag im), .int .i64 fn] rfl rfl (news_cells we #[.int .i64 op, .int .i64 (dd - 1), .slice Aa ag.length ca, .int .i64 (zag im), .int .i64 fn] _ rfl) (by simp [Value.oneCell']) (by decide) (by unfold maxLen; omega) (by omega) (by simp; omega) (we.heap.size + 1) (by simp) ?_; intro g cap wf hown3 hgr hloc hltg; obtain ⟨hr3, hb3, hrows3⟩ := rfl_step (n := k2 + 1) (cap := cap) (F := CIns) (fun _ _ _ _ _ _ h1 h2 h3 => CIns.go h1 h2 h3) (fun _ _ _ _ h => CIns.lt h) hRN2 hNw2 hown hrows hbae hre HXP.out rfl hgr hloc; have hx1c := (hb3.block (X0 + 1) (by omega) (by omega)).trans hx1; have z1 := cell_of_block hx1c 1; have zf := free_of_block hx1c 1)
            go_roundw
            case rel =>
              refine ⟨k2 + 1, l2 ++ [⟨op, dd - 1, ag, zag im, fn⟩], _, _, se, by omega, by go_num, (Below.heap_setCell _ _ _ _ (by show X0 ≠ X0 + 1; omega)).trans ((hb3.block X0 (by omega) (by omega)).trans hx0), set_of_block (i := 1) (.slice (some ⟨g, 0, none⟩) (k2 + 1) cap) hx1c, hr3.set (by omega), by simp; have := hb3.size; omega, Lib.hid ((hbw2.out.trans (hb3.mono (by omega))).setCell (p := ⟨X0 + 1, 1, none⟩) (.inr (by show X0 ≤ X0 + 1; omega)) _), Lib.hid (Lp.set (F := CIns) (X := X0 + 1) (i := 1) (fun _ _ _ _ _ _ h1 h2 h3 => CIns.go h1 h2 h3) ⟨hown3, hrows3, hinv.next hlt2 HTP.out, by rw [List.length_append, hlk]; rfl⟩ (by omega)), Lib.hid ?_⟩
              exact SL.imp (RPhiB.go (B := fun b => N ≤ b ∧ b < N2) ((hb3.kept.mono (fun b hb => ⟨hb.2, by omega⟩)).trans (kept_set (fun b hb => by have := hb.1; omega))) (fun b hb => hb)) hph2.out
            case measure => simp [intOf]; omega
          · have hex : (k2 = n2) ∨ (k2 < n2 ∧ ∃ c' n', sk2 = .bad c' n') := by
              by_cases h : k2 < n2
              · right
                refine ⟨h, ?_⟩
                cases sk2 with
                | ok r => exact absurd ⟨h, r, rfl⟩ hgo
                | bad c' n' => exact ⟨_, _, rfl⟩
              · left; omega
            obtain ⟨hown, hrows, hinv, hlk⟩ := hlp2.out
            obtain ⟨Ai, ci, hu, hsp⟩ : VS wo 5 (RInsB (fun b => N2 ≤ b)) u2 l2 := Rows.reads (R := RInsB (fun b => N2 ≤ b)) (hrows.imp (fun y d hy => CIns.go (KeptB.of (Kept.refl _)) (fun b hb => hb.1) hy)) (by rw [hlk]; exact hown) (fun g o y d hg hb hF hl hc => CIns.reads (B := fun b => N2 ≤ b) hb hF hc)
            subst hu
            have HTL2 : Hid (ToldS (listP insP 256) sk l2 sk2) := Lib.hid (told_list HT2.out (by
              rcases hex with rfl | ⟨_, c', n', rfl⟩
              · exact hinv.done
              · exact hinv.bad _))
            have HSP2 := Lib.hid hsp
            clear hgo hown hrows hinv hlk hsp
            rcases hex with hkn | ⟨hkn, c', n', hsk⟩
            · have hkn' : ¬ k2 < n2 := by omega
              go_upto_region 19 with fail
              have hx0lt := block_lt hx0
              have hx1lt := block_lt hx1
              go_wp2_with fail
              refine (numF_any bs R wo sk2 hrd2 hbl).mono ?_
              rintro e wa ⟨v1, tk, sa, rfl, ⟨rfl, htk⟩, hta, hra, hba⟩
              have HTA := Lib.hid hta
              have HTK := Lib.hid htk
              clear hta htk
              go_wp2_with fail
              refine (numF_any bs R wa sa hra hbl).mono ?_
              rintro e wb ⟨v2, ta, sb, rfl, ⟨rfl, hta⟩, htb, hrb, hbb⟩
              have HTB := Lib.hid htb
              have HTAA := Lib.hid hta
              have hta0 := hta.1
              have hta1 := hta.2
              clear htb hta
              go_wp2_with fail
              refine (nums_any bs R wb sb hrb hbl).mono ?_
              rintro e wc ⟨v3, tt, sc, rfl, ⟨At, ct, rfl, hto⟩, htc, hrc, hbc⟩
              have hsa := hba.size
              have hsb := hbb.size
              have hsc := hbc.size
              have hbabc : BB wo.heap.size R wo wc := (hba.trans (hbb.mono hsa)).trans (hbc.mono (by omega))
              have hx1c := (hbabc.block (X0 + 1) hx1lt (by omega)).trans hx1
              have hx0c := (hbabc.block X0 hx0lt (by omega)).trans hx0
              have hterm : ToldS termP sk2 ⟨tk, ta - 1, tt⟩ sc := HTA.out.and (HTB.out.and (ToldS.and (q := fun t => retP (⟨tk, ta - 1, t⟩ : TermD)) htc (ToldS.ret _ _)))
              have HALL : Hid (ToldS blkP s ⟨l, l2, ⟨tk, ta - 1, tt⟩⟩ sc) := Lib.hid (HTL.out.and (HTL2.out.and (ToldS.and (q := fun t => retP (⟨l, l2, t⟩ : BlkD)) hterm (ToldS.ret _ _))))
              clear hterm
              have hP := SL.imp (RPhiB.go (B := fun b => N ≤ b ∧ b < N2) (B' := fun b => N ≤ b) (hbabc.kept.mono (fun b hb => ⟨by have := hNw2; omega, by omega⟩)) (fun b hb => hb.1)) hph2.out
              have hI := SL.imp (RInsB.go (B := fun b => N2 ≤ b ∧ b < wo.heap.size) (B' := fun b => N ≤ b) (hbabc.kept.mono (fun b hb => ⟨hb.2, by omega⟩)) (fun b hb => by omega)) (SInssB.lt HSP2.out)
              have c0 := cell_of_block hx1c 0
              have c1 := cell_of_block hx1c 1
              have c2 := cell_of_block hx1c 2
              have c3 := cell_of_block hx1c 3
              have c4 := cell_of_block hx1c 4
              have e2 := free_of_block hx1c 2
              have e3 := free_of_block hx1c 3
              have e4 := free_of_block hx1c 4
              have d0 := cell_of_block hx0c 0
              have d1 := cell_of_block hx0c 1
              have d2 := cell_of_block hx0c 2
              have d3 := cell_of_block hx0c 3
              have d4 := cell_of_block hx0c 4
              have g0 := free_of_block hx0c 0
              have g1 := free_of_block hx0c 1
              have g2 := free_of_block hx0c 2
              have g3 := free_of_block hx0c 3
              have g4 := free_of_block hx0c 4
              have hne : X0 ≠ X0 + 1 := by omega
              have hne' : X0 + 1 ≠ X0 := by omega
              have HX0C := Lib.hid hx0c
              have HHP := Lib.hid hP
              have HHI := Lib.hid hI
              have HTO := Lib.hid hto
              have HRC := Lib.hid hrc
              have HBC : Hid (BB X0 R w wc) := Lib.hid (hbw2.out.trans (hbabc.mono (by omega)))
              clear hx0c hx1c hP hI hto hrc hbabc hba hbb hbc htc hra hrb
              go_wp2_with fail
              have hW1 : (((wc.setCell ⟨X0 + 1, 2, none⟩ (.int .i64 tk)).setCell ⟨X0 + 1, 3, none⟩ (.int .i64 (ta - 1))).setCell ⟨X0 + 1, 4, none⟩ (.slice At tt.length ct)).heap[X0]? = some (.cells #[.slice none 0 0, .slice none 0 0, .int .i64 0, .int .i64 0, .slice none 0 0] 63 (0, 0)) :=
                ((Below.heap_setCell _ _ _ _ hne).trans (Below.heap_setCell _ _ _ _ hne)).trans ((Below.heap_setCell _ _ _ _ hne).trans HX0C.out)
              have S5 := sets5 hW1 (.slice Ap l.length cp) (.slice Ai l2.length ci) (.int .i64 tk) (.int .i64 (ta - 1)) (.slice At tt.length ct)
              have hW2 : ∀ y, y ≠ X0 + 1 → (((wc.setCell ⟨X0 + 1, 2, none⟩ (.int .i64 tk)).setCell ⟨X0 + 1, 3, none⟩ (.int .i64 (ta - 1))).setCell ⟨X0 + 1, 4, none⟩ (.slice At tt.length ct)).heap[y]? = wc.heap[y]? := fun y hy =>
                ((Below.heap_setCell _ _ _ _ hy).trans (Below.heap_setCell _ _ _ _ hy)).trans (Below.heap_setCell _ _ _ _ hy)
              have hBF := (((HBC.out.setCell (p := ⟨X0 + 1, 2, none⟩) (.inr (by show X0 ≤ X0 + 1; omega)) (.int .i64 tk)).setCell (p := ⟨X0 + 1, 3, none⟩) (.inr (by show X0 ≤ X0 + 1; omega)) (.int .i64 (ta - 1))).setCell (p := ⟨X0 + 1, 4, none⟩) (.inr (by show X0 ≤ X0 + 1; omega)) (.slice At tt.length ct))
              have hBG := S5.bb hBF (Nat.le_refl _)
              refine bodyPost_ret (results_cell_row rfl _ _ X0 63 #[.slice Ap l.length cp, .slice Ai l2.length ci, .int .i64 tk, .int .i64 (ta - 1), .slice At tt.length ct] (0, 0) _ (by rfl) S5.blk Tryz.underlying63 (by rfl) (by kernel_rfl)) rfl ?_
              have hkF := fun (a : Addr) (y : Value) (h1 : a.block ≠ X0) (h2 : a.block ≠ X0 + 1) ha => (World.cell?_of_block ((S5.other a.block h1).trans (hW2 a.block h2))).trans (ha : wc.cell? a = some y)
              have hKN : KeptB (fun b => N ≤ b) wc _ := fun a y hb ha => hkF a y (by omega) (by omega) ha
              have hX0w := HXE.out
              refine ⟨_, ⟨l, l2, ⟨tk, ta - 1, tt⟩⟩, sc, rfl, ⟨Ap, cp, Ai, ci, At, ct, rfl, ?_, ?_, ?_, i64_of_ok HTK.out, i64_of_ok1 HTAA.out⟩, HALL.out, HRC.out.keep (fun y _ hy => (S5.other y (by omega)).trans (hW2 y (by omega))), by rw [← HXE.out]; exact hBG⟩
              · exact SL.imp (RPhiB.go (B := fun b => N ≤ b) hKN (fun b hb => by omega)) HHP.out
              · exact SL.imp (RInsB.go (B := fun b => N ≤ b) hKN (fun b hb => by omega)) HHI.out
              · exact SIntsB.go (hKN.mono (fun b hb => by omega)) (fun b hb => by omega) HTO.out
            · obtain ⟨y2, y3, y4⟩ := (show Rf bs R wo (.bad c' n') from hsk ▸ hrd2).bad2
              go_upto_region 19 with fail
              have hx0lt := block_lt hx0
              have hx1lt := block_lt hx1
              go_wp2_with fail
              refine (numF_any bs R wo sk2 hrd2 hbl).mono ?_
              rintro e wa ⟨v1, tk, sa, rfl, ⟨rfl, htk⟩, hta, hra, hba⟩
              have HTA := Lib.hid hta
              have HTK := Lib.hid htk
              clear hta htk
              go_wp2_with fail
              refine (numF_any bs R wa sa hra hbl).mono ?_
              rintro e wb ⟨v2, ta, sb, rfl, ⟨rfl, hta⟩, htb, hrb, hbb⟩
              have HTB := Lib.hid htb
              have HTAA := Lib.hid hta
              have hta0 := hta.1
              have hta1 := hta.2
              clear htb hta
              go_wp2_with fail
              refine (nums_any bs R wb sb hrb hbl).mono ?_
              rintro e wc ⟨v3, tt, sc, rfl, ⟨At, ct, rfl, hto⟩, htc, hrc, hbc⟩
              have hsa := hba.size
              have hsb := hbb.size
              have hsc := hbc.size
              have hbabc : BB wo.heap.size R wo wc := (hba.trans (hbb.mono hsa)).trans (hbc.mono (by omega))
              have hx1c := (hbabc.block (X0 + 1) hx1lt (by omega)).trans hx1
              have hx0c := (hbabc.block X0 hx0lt (by omega)).trans hx0
              have hterm : ToldS termP sk2 ⟨tk, ta - 1, tt⟩ sc := HTA.out.and (HTB.out.and (ToldS.and (q := fun t => retP (⟨tk, ta - 1, t⟩ : TermD)) htc (ToldS.ret _ _)))
              have HALL : Hid (ToldS blkP s ⟨l, l2, ⟨tk, ta - 1, tt⟩⟩ sc) := Lib.hid (HTL.out.and (HTL2.out.and (ToldS.and (q := fun t => retP (⟨l, l2, t⟩ : BlkD)) hterm (ToldS.ret _ _))))
              clear hterm
              have hP := SL.imp (RPhiB.go (B := fun b => N ≤ b ∧ b < N2) (B' := fun b => N ≤ b) (hbabc.kept.mono (fun b hb => ⟨by have := hNw2; omega, by omega⟩)) (fun b hb => hb.1)) hph2.out
              have hI := SL.imp (RInsB.go (B := fun b => N2 ≤ b ∧ b < wo.heap.size) (B' := fun b => N ≤ b) (hbabc.kept.mono (fun b hb => ⟨hb.2, by omega⟩)) (fun b hb => by omega)) (SInssB.lt HSP2.out)
              have c0 := cell_of_block hx1c 0
              have c1 := cell_of_block hx1c 1
              have c2 := cell_of_block hx1c 2
              have c3 := cell_of_block hx1c 3
              have c4 := cell_of_block hx1c 4
              have e2 := free_of_block hx1c 2
              have e3 := free_of_block hx1c 3
              have e4 := free_of_block hx1c 4
              have d0 := cell_of_block hx0c 0
              have d1 := cell_of_block hx0c 1
              have d2 := cell_of_block hx0c 2
              have d3 := cell_of_block hx0c 3
              have d4 := cell_of_block hx0c 4
              have g0 := free_of_block hx0c 0
              have g1 := free_of_block hx0c 1
              have g2 := free_of_block hx0c 2
              have g3 := free_of_block hx0c 3
              have g4 := free_of_block hx0c 4
              have hne : X0 ≠ X0 + 1 := by omega
              have hne' : X0 + 1 ≠ X0 := by omega
              have HX0C := Lib.hid hx0c
              have HHP := Lib.hid hP
              have HHI := Lib.hid hI
              have HTO := Lib.hid hto
              have HRC := Lib.hid hrc
              have HBC : Hid (BB X0 R w wc) := Lib.hid (hbw2.out.trans (hbabc.mono (by omega)))
              clear hx0c hx1c hP hI hto hrc hbabc hba hbb hbc htc hra hrb
              go_wp2_with fail
              have hW1 : (((wc.setCell ⟨X0 + 1, 2, none⟩ (.int .i64 tk)).setCell ⟨X0 + 1, 3, none⟩ (.int .i64 (ta - 1))).setCell ⟨X0 + 1, 4, none⟩ (.slice At tt.length ct)).heap[X0]? = some (.cells #[.slice none 0 0, .slice none 0 0, .int .i64 0, .int .i64 0, .slice none 0 0] 63 (0, 0)) :=
                ((Below.heap_setCell _ _ _ _ hne).trans (Below.heap_setCell _ _ _ _ hne)).trans ((Below.heap_setCell _ _ _ _ hne).trans HX0C.out)
              have S5 := sets5 hW1 (.slice Ap l.length cp) (.slice Ai l2.length ci) (.int .i64 tk) (.int .i64 (ta - 1)) (.slice At tt.length ct)
              have hW2 : ∀ y, y ≠ X0 + 1 → (((wc.setCell ⟨X0 + 1, 2, none⟩ (.int .i64 tk)).setCell ⟨X0 + 1, 3, none⟩ (.int .i64 (ta - 1))).setCell ⟨X0 + 1, 4, none⟩ (.slice At tt.length ct)).heap[y]? = wc.heap[y]? := fun y hy =>
                ((Below.heap_setCell _ _ _ _ hy).trans (Below.heap_setCell _ _ _ _ hy)).trans (Below.heap_setCell _ _ _ _ hy)
              have hBF := (((HBC.out.setCell (p := ⟨X0 + 1, 2, none⟩) (.inr (by show X0 ≤ X0 + 1; omega)) (.int .i64 tk)).setCell (p := ⟨X0 + 1, 3, none⟩) (.inr (by show X0 ≤ X0 + 1; omega)) (.int .i64 (ta - 1))).setCell (p := ⟨X0 + 1, 4, none⟩) (.inr (by show X0 ≤ X0 + 1; omega)) (.slice At tt.length ct))
              have hBG := S5.bb hBF (Nat.le_refl _)
              refine bodyPost_ret (results_cell_row rfl _ _ X0 63 #[.slice Ap l.length cp, .slice Ai l2.length ci, .int .i64 tk, .int .i64 (ta - 1), .slice At tt.length ct] (0, 0) _ (by rfl) S5.blk Tryz.underlying63 (by rfl) (by kernel_rfl)) rfl ?_
              have hkF := fun (a : Addr) (y : Value) (h1 : a.block ≠ X0) (h2 : a.block ≠ X0 + 1) ha => (World.cell?_of_block ((S5.other a.block h1).trans (hW2 a.block h2))).trans (ha : wc.cell? a = some y)
              have hKN : KeptB (fun b => N ≤ b) wc _ := fun a y hb ha => hkF a y (by omega) (by omega) ha
              have hX0w := HXE.out
              refine ⟨_, ⟨l, l2, ⟨tk, ta - 1, tt⟩⟩, sc, rfl, ⟨Ap, cp, Ai, ci, At, ct, rfl, ?_, ?_, ?_, i64_of_ok HTK.out, i64_of_ok1 HTAA.out⟩, HALL.out, HRC.out.keep (fun y _ hy => (S5.other y (by omega)).trans (hW2 y (by omega))), by rw [← HXE.out]; exact hBG⟩
              · exact SL.imp (RPhiB.go (B := fun b => N ≤ b) hKN (fun b hb => by omega)) HHP.out
              · exact SL.imp (RInsB.go (B := fun b => N ≤ b) hKN (fun b hb => by omega)) HHI.out
              · exact SIntsB.go (hKN.mono (fun b hb => by omega)) (fun b hb => by omega) HTO.out
end Go.Proofs.YtoidhjmhakajlaaGreatDoor
