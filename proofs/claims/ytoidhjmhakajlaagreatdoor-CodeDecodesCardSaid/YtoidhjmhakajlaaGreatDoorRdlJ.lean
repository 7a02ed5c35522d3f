/- What is read: lists, phis, instructions, ends, blocks, functions. -/
import Derived.Test.YtoidhjmhakajlaaGreatDoorRlJ
namespace Go.Proofs.YtoidhjmhakajlaaGreatDoor
open Go.ChangeShapes Go.WideShapes Go.RowKit Go.Deep
set_option linter.unusedVariables false

theorem set_os (w : World) (a : Addr) (v : Value) : (w.setCell a v).os = w.os := rfl
theorem set_tape (w : World) (a : Addr) (v : Value) : (w.setCell a v).tape = w.tape := rfl
theorem set_output (w : World) (a : Addr) (v : Value) : (w.setCell a v).output = w.output := rfl
theorem set_size (w : World) (a : Addr) (v : Value) : (w.setCell a v).heap.size = w.heap.size := by simp [World.setCell]
/-- The cells of a block are stored. -/
structure Sets (G n : Nat) (t : TypeId) (cs : Array Value) (w w' : World) : Prop where
  blk : w'.heap[G]? = some (.cells cs t (0, 0))
  other : ∀ k, k ≠ G → w'.heap[k]? = w.heap[k]?
  size : w'.heap.size = w.heap.size
  os : w'.os = w.os
  tape : w'.tape = w.tape
  output : w'.output = w.output
theorem sets2 {w : World} {G : Nat} {a b : Value} {t : TypeId} (h : w.heap[G]? = some (.cells #[a, b] t (0, 0))) (v0 v1 : Value) : Sets G 2 t #[v0, v1] w ((w.setCell ⟨G, 0, none⟩ v0).setCell ⟨G, 1, none⟩ v1) :=
  ⟨set_of_block v1 (set_of_block v0 h), fun k hk => (Below.heap_setCell _ _ _ _ hk).trans (Below.heap_setCell _ _ _ _ hk), by simp only [set_size], by simp only [set_os], by simp only [set_tape], by simp only [set_output]⟩
theorem sets3 {w : World} {G : Nat} {a b c : Value} {t : TypeId} (h : w.heap[G]? = some (.cells #[a, b, c] t (0, 0))) (v0 v1 v2 : Value) : Sets G 3 t #[v0, v1, v2] w (((w.setCell ⟨G, 0, none⟩ v0).setCell ⟨G, 1, none⟩ v1).setCell ⟨G, 2, none⟩ v2) :=
  ⟨set_of_block v2 (set_of_block v1 (set_of_block v0 h)), fun k hk => ((Below.heap_setCell _ _ _ _ hk).trans (Below.heap_setCell _ _ _ _ hk)).trans (Below.heap_setCell _ _ _ _ hk), by simp only [set_size], by simp only [set_os], by simp only [set_tape], by simp only [set_output]⟩
theorem sets4 {w : World} {G : Nat} {a b c d : Value} {t : TypeId} (h : w.heap[G]? = some (.cells #[a, b, c, d] t (0, 0))) (v0 v1 v2 v3 : Value) :
    Sets G 4 t #[v0, v1, v2, v3] w ((((w.setCell ⟨G, 0, none⟩ v0).setCell ⟨G, 1, none⟩ v1).setCell ⟨G, 2, none⟩ v2).setCell ⟨G, 3, none⟩ v3) :=
  ⟨sets4_block h _ _ _ _, fun k hk => sets4_other w hk _ _ _ _, by simp only [set_size], by simp only [set_os], by simp only [set_tape], by simp only [set_output]⟩
theorem sets5 {w : World} {G : Nat} {a b c d e : Value} {t : TypeId} (h : w.heap[G]? = some (.cells #[a, b, c, d, e] t (0, 0))) (v0 v1 v2 v3 v4 : Value) :
    Sets G 5 t #[v0, v1, v2, v3, v4] w (((((w.setCell ⟨G, 0, none⟩ v0).setCell ⟨G, 1, none⟩ v1).setCell ⟨G, 2, none⟩ v2).setCell ⟨G, 3, none⟩ v3).setCell ⟨G, 4, none⟩ v4) :=
  ⟨sets5_block h _ _ _ _ _, fun k hk => (Below.heap_setCell _ _ _ _ hk).trans (sets4_other w hk _ _ _ _), by simp only [set_size], by simp only [set_os], by simp only [set_tape], by simp only [set_output]⟩
theorem Sets.kept {G n : Nat} {t : TypeId} {cs : Array Value} {w w' : World} (h : Sets G n t cs w w') : KeptB (fun b => b ≠ G) w w' := fun a v hb ha => (World.cell?_of_block (h.other a.block hb)).trans ha
theorem Sets.bb {G n m R : Nat} {t : TypeId} {cs : Array Value} {w0 w w' : World} (h : Sets G n t cs w w') (hb : BB m R w0 w) (hG : m ≤ G) : BB m R w0 w' :=
  hb.trans ⟨h.os, h.tape, h.output, by rw [h.size]; exact Nat.le_refl _, fun k hk _ => h.other k (by omega)⟩
theorem Sets.rd {G n R : Nat} {t : TypeId} {cs ds : Array Value} {bs : List UInt8} {s : St} {w w' : World} (h : Sets G n t cs w w') (hr : Rd bs R w s) (hG : R < G) (hd : w.heap[G]? = some (.cells ds t (0, 0))) (ht : t ≠ 75) : Rd bs R w' s :=
  hr.other hG hd ht (fun k _ hk => h.other k hk)
set_option maxRecDepth 100000 in
set_option maxHeartbeats 2000000 in
theorem readInts_any (bs : List UInt8) (R : Nat) (w : World) (s : St) (hr : Rd bs R w s) :
    Calls Tryz.prog 110 #[.pointer (some ⟨R, 0, none⟩), .int .i64 256, .func (.func 87) #[.pointer (some ⟨R, 0, none⟩)] #[]] w (ToldR bs R (listP numP 256) (VL 1 RIntB) w s) := by
  obtain ⟨i0, p1, p2, p3, p4⟩ := info_parts Tryz.info3
  have HI := Lib.hid (And.intro p1 (And.intro p2 (And.intro p3 p4)))
  clear p1 p2 p3 p4
  have hlt := hr.lt
  go_enter Tryz.func110, Tryz.ntmps110
  go_wp2_with fail
  refine (many_any bs R 256 w s hr (by omega)).mono ?_
  rintro e w1 ⟨v, n, s1, rfl, ⟨rfl, hn0, hn1⟩, ht, hr1, hb1⟩
  obtain ⟨n, rfl⟩ := Int.eq_ofNat_of_zero_le hn0
  have HT := Lib.hid ht
  have hn2 : n ≤ 256 := by omega
  clear hn0 hn1 ht
  go_wp2_with fail
  go_loopw [7, 11] (fun u i wr => ∃ (k : Nat) (l : List Int) (cs : List Value) (sk : St), k ≤ n ∧ l.length = k ∧ i = .int .i64 k ∧ wr.ownsRow w.heap.size 3 1 u k cs ∧ Rows 1 (CInt (fun b => w.heap.size ≤ b ∧ some b ≠ u.ownBlock) wr) l cs ∧ Rd bs R wr sk ∧ BB w.heap.size R w wr ∧ Hid (Inv numP n k s1 sk l)) (fun _ i _ => n - (intOf i).toNat)
  case atStart => exact ⟨0, [], [], s1, Nat.zero_le _, rfl, rfl, World.ownsRow_nil _ _ _ _, rfl, hr1, hb1, Lib.hid (Inv.zero _ _ _)⟩
  case round =>
    obtain ⟨wo, rfl⟩ : ∃ wo, wo = wr := ⟨wr, rfl⟩
    obtain ⟨k, l, cs, sk, hk, hlk, rfl, hown, hrows, hrd, hbw, hinv⟩ := hrel
    have HLK := Lib.hid hlk
    clear hlk
    have hsw := hbw.size
    by_cases hlt2 : k < n
    · go_wp2_with fail
      refine (rnumber_any bs R wo sk hrd).mono ?_
      rintro e w2 ⟨v, x, s2, rfl, ⟨rfl, hx⟩, ht2, hr2, hb2⟩
      have hs2 := hb2.size
      have hown2 : w2.ownsRow w.heap.size 3 1 u7 k cs := own_block hown (fun y hy => hb2.block y (hown.lt y hy).2 (by have := (hown.lt y hy).1; omega))
      have HT2 := Lib.hid ht2
      have HX : Hid (CInt (fun b => wo.heap.size ≤ b) w2 x [.int .i64 x]) := Lib.hid ⟨rfl, i64_of_ok hx⟩
      clear ht2
      cases s2 with
      | ok r =>
        go_wp2_with (at_builtin; refine wpList_append_lies _ rfl (.tmp 13) (.tmp 16) 54 rfl w.heap.size 3 i0 (.int .i64 0) 1 8 Tryz.underlying54 HI.out.1 HI.out.2.1 HI.out.2.2.1 HI.out.2.2.2 rfl (by decide) u7 k cs rfl (hown2.alloc _) ⟨w2.heap.size, 0, none⟩ 1 1 [.int .i64 x] rfl rfl (news_cells w2 #[.int .i64 x] _ rfl) (by simp [Value.oneCell']) (by decide) (by unfold maxLen; omega) (by omega) (by simp; omega) (w2.heap.size + 1) (by simp) ?_; intro g cap w3 hown3 hgr hloc hltg; obtain ⟨hr3, hb3, hrows3⟩ := rl_step (n := k + 1) (cap := cap) (F := CInt) (fun _ _ _ _ _ _ h1 h2 h3 => CInt.go h3) (fun _ _ _ _ h => h) (by decide) hlt hsw hown hrows hb2 hr2 HX.out rfl hgr hloc; have hr30 := hr3; obtain ⟨A3, c3, pos3, ev3, k1, k2, k3, k4⟩ := hr3; obtain ⟨rfl, k5⟩ := k4; have d2 := cell_of_block k1 2; clear k1)
        go_roundw
        case rel => exact ⟨k + 1, l ++ [x], _, .ok r, by omega, by rw [List.length_append, HLK.out]; rfl, by go_num, hown3, hrows3, hr30, hbw.trans hb3, Lib.hid (hinv.out.next hlt2 HT2.out)⟩
        case measure => simp [intOf]; omega
      | bad c' n' =>
        go_wp2_with (at_builtin; refine wpList_append_lies _ rfl (.tmp 13) (.tmp 16) 54 rfl w.heap.size 3 i0 (.int .i64 0) 1 8 Tryz.underlying54 HI.out.1 HI.out.2.1 HI.out.2.2.1 HI.out.2.2.2 rfl (by decide) u7 k cs rfl (hown2.alloc _) ⟨w2.heap.size, 0, none⟩ 1 1 [.int .i64 x] rfl rfl (news_cells w2 #[.int .i64 x] _ rfl) (by simp [Value.oneCell']) (by decide) (by unfold maxLen; omega) (by omega) (by simp; omega) (w2.heap.size + 1) (by simp) ?_; intro g cap w3 hown3 hgr hloc hltg; obtain ⟨hr3, hb3, hrows3⟩ := rl_step (n := k + 1) (cap := cap) (F := CInt) (fun _ _ _ _ _ _ h1 h2 h3 => CInt.go h3) (fun _ _ _ _ h => h) (by decide) hlt hsw hown hrows hb2 hr2 HX.out rfl hgr hloc; have hr30 := hr3; obtain ⟨A3, c3, pos3, ev3, k1, k2, k3, k4⟩ := hr3; obtain ⟨g', p', rfl, -⟩ := k4; have d2 := cell_of_block k1 2; clear k1)
        go_ret
        exact ⟨_, [], .bad c' n', rfl, VL.nil _ _ _ _, told_list HT.out (hinv.out.stop hlt2 HT2.out []), hr30, hbw.trans hb3⟩
    · obtain rfl : k = n := by omega
      have HV := Lib.hid (Rows.reads (R := RIntB (fun b => w.heap.size ≤ b)) (F := CInt (fun b => w.heap.size ≤ b) wo) hrows (by rw [HLK.out]; exact hown) (fun g o y d hg hb hF hl hc => CInt.reads (B := fun b => w.heap.size ≤ b) hb hF hc))
      clear hrows
      go_wp2_with fail
      go_ret
      exact ⟨_, l, sk, rfl, HV.out, told_list HT.out hinv.out.done, hrd, hbw⟩

set_option maxRecDepth 100000 in
set_option maxHeartbeats 2000000 in
theorem rnumbers_any (bs : List UInt8) (R : Nat) (w : World) (s : St) (hr : Rd bs R w s) :
    Calls Tryz.prog 88 #[.pointer (some ⟨R, 0, none⟩)] w (ToldR bs R intsP (VL 1 RIntB) w s) := by
  go_enter Tryz.func88, Tryz.ntmps88
  go_wp2_with fail
  refine (readInts_any bs R w s hr).mono ?_
  rintro e w1 ⟨v, l, s1, rfl, hv, ht, hr1, hb1⟩
  go_wp2_with fail
  go_ret
  exact ⟨_, l, s1, rfl, hv, ht, hr1, hb1⟩

set_option maxRecDepth 100000 in
set_option maxHeartbeats 2000000 in
theorem rphi_any (bs : List UInt8) (R : Nat) (w : World) (s : St) (hr : Rd bs R w s) :
    Calls Tryz.prog 112 #[.pointer (some ⟨R, 0, none⟩)] w (ToldR bs R phiP VPhiB w s) := by
  have hlt := hr.lt
  go_enter Tryz.func112, Tryz.ntmps112
  go_wp2_with fail
  obtain ⟨w1, hw1, hs1, -, hbe1, -, -⟩ := named w #[.int .i64 0, .slice none 0 0] 67
  have hk1 : w1.heap[w.heap.size]? = some (.cells #[.int .i64 0, .slice none 0 0] 67 (0, 0)) := by rw [hw1]; exact heap_alloc_new _ _
  have hr1 := hr.below hbe1
  have hb1 : BB w.heap.size R w w1 := BB.of_below hbe1 (Nat.le_refl _)
  rw [← hw1]
  clear hw1 hbe1
  have hz1 : w.heap.size < w1.heap.size := by omega
  refine (rnumber_any bs R w1 s hr1).mono ?_
  rintro e w2 ⟨v, d, s2, rfl, ⟨rfl, hd⟩, ht2, hr2, hc2⟩
  have hk2 := hc2.block' hk1 hz1 (by omega)
  have hy2 := hc2.size
  have hz2 : w.heap.size < w2.heap.size := by omega
  have hb2 := hb1.trans (hc2.mono (by omega))
  have HT2 := Lib.hid ht2
  have HK1 := Lib.hid hk1
  clear ht2 hk1
  have d_1 := hd.1
  have d_2 := hd.2
  go_wp2_with fail
  refine (rnumbers_any bs R w2 s2 hr2).mono ?_
  rintro e w3 ⟨v, a, s3, rfl, ⟨A, c, rfl, qa⟩, ht3, hr3, hc3⟩
  have hk3 := hc3.block' hk2 hz2 (by omega)
  have hy3 := hc3.size
  have hz3 : w.heap.size < w3.heap.size := by omega
  have hb3 := hb2.trans (hc3.mono (by omega))
  have HT3 := Lib.hid ht3
  have HK2 := Lib.hid hk2
  clear ht3 hk2
  have z0 := cell_of_block hk3 0
  have y0 := free_of_block hk3 0
  have z1 := cell_of_block hk3 1
  have y1 := free_of_block hk3 1
  go_wp2_with fail
  have hset := sets2 hk3 (.int .i64 d) (.slice A a.length c)
  generalize ((w3.setCell ⟨w.heap.size, 0, none⟩ (.int .i64 d)).setCell ⟨w.heap.size, 1, none⟩ (.slice A a.length c)) = wF at *
  refine bodyPost_ret (results_cell_row rfl _ _ w.heap.size 67 #[.int .i64 d, .slice A a.length c] (0, 0) _ (by rfl) hset.blk Tryz.underlying67 (by rfl) (by first | kernel_rfl | (obtain ⟨i, h1, _, h3, _⟩ := info_parts Tryz.info67; rw [h1]; exact congrArg some h3))) rfl ?_
  have hK2 : KeptB (fun b => w2.heap.size ≤ b ∧ b < w3.heap.size) w3 wF := hset.kept.mono (fun b hb => by omega)
  exact ⟨_, ⟨d, a⟩, s3, rfl, ⟨A, c, rfl, SIntsB.go hK2 (fun b hb => by omega) (SIntsB.lt qa), i64_of_ok hd⟩, ToldS.and HT2.out (ToldS.and HT3.out (ToldS.ret _ _)), hset.rd hr3 hlt hk3 (by decide), hset.bb hb3 (Nat.le_refl _)⟩

set_option maxRecDepth 100000 in
set_option maxHeartbeats 2000000 in
theorem readPhis_any (bs : List UInt8) (R : Nat) (w : World) (s : St) (hr : Rd bs R w s) :
    Calls Tryz.prog 111 #[.pointer (some ⟨R, 0, none⟩), .int .i64 256, .func (.func 112) #[.pointer (some ⟨R, 0, none⟩)] #[]] w (ToldR bs R (listP phiP 256) (VL 2 RPhiB) w s) := by
  obtain ⟨i0, p1, p2, p3, p4⟩ := info_parts Tryz.info67
  have HI := Lib.hid (And.intro p1 (And.intro p2 (And.intro p3 p4)))
  clear p1 p2 p3 p4
  have hlt := hr.lt
  go_enter Tryz.func111, Tryz.ntmps111
  go_wp2_with fail
  refine (many_any bs R 256 w s hr (by omega)).mono ?_
  rintro e w1 ⟨v, n, s1, rfl, ⟨rfl, hn0, hn1⟩, ht, hr1, hb1⟩
  obtain ⟨n, rfl⟩ := Int.eq_ofNat_of_zero_le hn0
  have HT := Lib.hid ht
  have hn2 : n ≤ 256 := by omega
  clear hn0 hn1 ht
  go_wp2_with fail
  go_loopw [7, 11] (fun u i wr => ∃ (k : Nat) (l : List PhiD) (cs : List Value) (sk : St), k ≤ n ∧ l.length = k ∧ i = .int .i64 k ∧ wr.ownsRow w.heap.size 67 2 u k cs ∧ Rows 2 (CPhi (fun b => w.heap.size ≤ b ∧ some b ≠ u.ownBlock) wr) l cs ∧ Rd bs R wr sk ∧ BB w.heap.size R w wr ∧ Hid (Inv phiP n k s1 sk l)) (fun _ i _ => n - (intOf i).toNat)
  case atStart => exact ⟨0, [], [], s1, Nat.zero_le _, rfl, rfl, World.ownsRow_nil _ _ _ _, rfl, hr1, hb1, Lib.hid (Inv.zero _ _ _)⟩
  case round =>
    obtain ⟨wo, rfl⟩ : ∃ wo, wo = wr := ⟨wr, rfl⟩
    obtain ⟨k, l, cs, sk, hk, hlk, rfl, hown, hrows, hrd, hbw, hinv⟩ := hrel
    have HLK := Lib.hid hlk
    clear hlk
    have hsw := hbw.size
    by_cases hlt2 : k < n
    · go_wp2_with fail
      refine (rphi_any bs R wo sk hrd).mono ?_
      rintro e w2 ⟨v, x, s2, rfl, ⟨A, c, rfl, hx, h64⟩, ht2, hr2, hb2⟩
      have hs2 := hb2.size
      have hown2 : w2.ownsRow w.heap.size 67 2 u7 k cs := own_block hown (fun y hy => hb2.block y (hown.lt y hy).2 (by have := (hown.lt y hy).1; omega))
      have HT2 := Lib.hid ht2
      have HX : Hid (CPhi (fun b => wo.heap.size ≤ b) w2 x [.int .i64 x.dst, .slice A x.args.length c]) := Lib.hid ⟨A, c, rfl, hx, h64⟩
      clear ht2
      cases s2 with
      | ok r =>
        go_wp2_with (at_builtin; refine wpList_append_lies _ rfl (.tmp 13) (.tmp 16) 58 rfl w.heap.size 67 i0 (.agg #[.int .i64 0, .slice none 0 0]) 2 32 Tryz.underlying58 HI.out.1 HI.out.2.1 HI.out.2.2.1 HI.out.2.2.2 rfl (by decide) u7 k cs rfl (hown2.alloc _) ⟨w2.heap.size, 0, none⟩ 1 1 [.int .i64 x.dst, .slice A x.args.length c] rfl rfl (news_cells w2 #[.int .i64 x.dst, .slice A x.args.length c] _ rfl) (by simp [Value.oneCell']) (by decide) (by unfold maxLen; omega) (by omega) (by simp; omega) (w2.heap.size + 1) (by simp) ?_; intro g cap w3 hown3 hgr hloc hltg; obtain ⟨hr3, hb3, hrows3⟩ := rl_step (n := k + 1) (cap := cap) (F := CPhi) (fun _ _ _ _ _ _ h1 h2 h3 => CPhi.go h1 h2 h3) (fun _ _ _ _ h => CPhi.lt h) (by decide) hlt hsw hown hrows hb2 hr2 HX.out rfl hgr hloc; have hr30 := hr3; obtain ⟨A3, c3, pos3, ev3, k1, k2, k3, k4⟩ := hr3; obtain ⟨rfl, k5⟩ := k4; have d2 := cell_of_block k1 2; clear k1)
        go_roundw
        case rel => exact ⟨k + 1, l ++ [x], _, .ok r, by omega, by rw [List.length_append, HLK.out]; rfl, by go_num, hown3, hrows3, hr30, hbw.trans hb3, Lib.hid (hinv.out.next hlt2 HT2.out)⟩
        case measure => simp [intOf]; omega
      | bad c' n' =>
        go_wp2_with (at_builtin; refine wpList_append_lies _ rfl (.tmp 13) (.tmp 16) 58 rfl w.heap.size 67 i0 (.agg #[.int .i64 0, .slice none 0 0]) 2 32 Tryz.underlying58 HI.out.1 HI.out.2.1 HI.out.2.2.1 HI.out.2.2.2 rfl (by decide) u7 k cs rfl (hown2.alloc _) ⟨w2.heap.size, 0, none⟩ 1 1 [.int .i64 x.dst, .slice A x.args.length c] rfl rfl (news_cells w2 #[.int .i64 x.dst, .slice A x.args.length c] _ rfl) (by simp [Value.oneCell']) (by decide) (by unfold maxLen; omega) (by omega) (by simp; omega) (w2.heap.size + 1) (by simp) ?_; intro g cap w3 hown3 hgr hloc hltg; obtain ⟨hr3, hb3, hrows3⟩ := rl_step (n := k + 1) (cap := cap) (F := CPhi) (fun _ _ _ _ _ _ h1 h2 h3 => CPhi.go h1 h2 h3) (fun _ _ _ _ h => CPhi.lt h) (by decide) hlt hsw hown hrows hb2 hr2 HX.out rfl hgr hloc; have hr30 := hr3; obtain ⟨A3, c3, pos3, ev3, k1, k2, k3, k4⟩ := hr3; obtain ⟨g', p', rfl, -⟩ := k4; have d2 := cell_of_block k1 2; clear k1)
        go_ret
        exact ⟨_, [], .bad c' n', rfl, VL.nil _ _ _ _, told_list HT.out (hinv.out.stop hlt2 HT2.out []), hr30, hbw.trans hb3⟩
    · obtain rfl : k = n := by omega
      have HV := Lib.hid (Rows.reads (R := RPhiB (fun b => w.heap.size ≤ b)) (hrows.imp (fun y d hy => CPhi.go (KeptB.of (Kept.refl _)) (fun b hb => hb.1) hy)) (by rw [HLK.out]; exact hown) (fun g o y d hg hb hF hl hc => CPhi.reads (B := fun b => w.heap.size ≤ b) hb hF hc))
      clear hrows
      go_wp2_with fail
      go_ret
      exact ⟨_, l, sk, rfl, HV.out, told_list HT.out hinv.out.done, hrd, hbw⟩

set_option maxRecDepth 100000 in
set_option maxHeartbeats 2000000 in
theorem rterm_any (bs : List UInt8) (R : Nat) (w : World) (s : St) (hr : Rd bs R w s) :
    Calls Tryz.prog 115 #[.pointer (some ⟨R, 0, none⟩)] w (ToldR bs R termP VTermB w s) := by
  have hlt := hr.lt
  go_enter Tryz.func115, Tryz.ntmps115
  go_wp2_with fail
  obtain ⟨w1, hw1, hs1, -, hbe1, -, -⟩ := named w #[.int .i64 0, .int .i64 0, .slice none 0 0] 61
  have hk1 : w1.heap[w.heap.size]? = some (.cells #[.int .i64 0, .int .i64 0, .slice none 0 0] 61 (0, 0)) := by rw [hw1]; exact heap_alloc_new _ _
  have hr1 := hr.below hbe1
  have hb1 : BB w.heap.size R w w1 := BB.of_below hbe1 (Nat.le_refl _)
  rw [← hw1]
  clear hw1 hbe1
  have hz1 : w.heap.size < w1.heap.size := by omega
  refine (rnumber_any bs R w1 s hr1).mono ?_
  rintro e w2 ⟨v, k, s2, rfl, ⟨rfl, hk⟩, ht2, hr2, hc2⟩
  have hk2 := hc2.block' hk1 hz1 (by omega)
  have hy2 := hc2.size
  have hz2 : w.heap.size < w2.heap.size := by omega
  have hb2 := hb1.trans (hc2.mono (by omega))
  have HT2 := Lib.hid ht2
  have HK1 := Lib.hid hk1
  clear ht2 hk1
  have k_1 := hk.1
  have k_2 := hk.2
  go_wp2_with fail
  refine (rnumber_any bs R w2 s2 hr2).mono ?_
  rintro e w3 ⟨v, a, s3, rfl, ⟨rfl, ha⟩, ht3, hr3, hc3⟩
  have hk3 := hc3.block' hk2 hz2 (by omega)
  have hy3 := hc3.size
  have hz3 : w.heap.size < w3.heap.size := by omega
  have hb3 := hb2.trans (hc3.mono (by omega))
  have HT3 := Lib.hid ht3
  have HK2 := Lib.hid hk2
  clear ht3 hk2
  have a_1 := ha.1
  have a_2 := ha.2
  go_wp2_with fail
  refine (rnumbers_any bs R w3 s3 hr3).mono ?_
  rintro e w4 ⟨v, t, s4, rfl, ⟨A, c, rfl, qt⟩, ht4, hr4, hc4⟩
  have hk4 := hc4.block' hk3 hz3 (by omega)
  have hy4 := hc4.size
  have hz4 : w.heap.size < w4.heap.size := by omega
  have hb4 := hb3.trans (hc4.mono (by omega))
  have HT4 := Lib.hid ht4
  have HK3 := Lib.hid hk3
  clear ht4 hk3
  have z0 := cell_of_block hk4 0
  have y0 := free_of_block hk4 0
  have z1 := cell_of_block hk4 1
  have y1 := free_of_block hk4 1
  have z2 := cell_of_block hk4 2
  have y2 := free_of_block hk4 2
  go_wp2_with fail
  have hset := sets3 hk4 (.int .i64 k) (.int .i64 (a - 1)) (.slice A t.length c)
  generalize (((w4.setCell ⟨w.heap.size, 0, none⟩ (.int .i64 k)).setCell ⟨w.heap.size, 1, none⟩ (.int .i64 (a - 1))).setCell ⟨w.heap.size, 2, none⟩ (.slice A t.length c)) = wF at *
  refine bodyPost_ret (results_cell_row rfl _ _ w.heap.size 61 #[.int .i64 k, .int .i64 (a - 1), .slice A t.length c] (0, 0) _ (by rfl) hset.blk Tryz.underlying61 (by rfl) (by first | kernel_rfl | (obtain ⟨i, h1, _, h3, _⟩ := info_parts Tryz.info61; rw [h1]; exact congrArg some h3))) rfl ?_
  have hK3 : KeptB (fun b => w3.heap.size ≤ b ∧ b < w4.heap.size) w4 wF := hset.kept.mono (fun b hb => by omega)
  exact ⟨_, ⟨k, a - 1, t⟩, s4, rfl, ⟨A, c, rfl, SIntsB.go hK3 (fun b hb => by omega) (SIntsB.lt qt), i64_of_ok hk, i64_of_ok1 ha⟩, ToldS.and HT2.out (ToldS.and HT3.out (ToldS.and HT4.out (ToldS.ret _ _))), hset.rd hr4 hlt hk4 (by decide), hset.bb hb4 (Nat.le_refl _)⟩

set_option maxRecDepth 100000 in
set_option maxHeartbeats 2000000 in
theorem rins_any (bs : List UInt8) (R : Nat) (w : World) (s : St) (hr : Rd bs R w s) :
    Calls Tryz.prog 114 #[.pointer (some ⟨R, 0, none⟩)] w (ToldR bs R insP VInsB w s) := by
  have hlt := hr.lt
  go_enter Tryz.func114, Tryz.ntmps114
  go_wp2_with fail
  obtain ⟨w1, hw1, hs1, -, hbe1, -, -⟩ := named w #[.int .i64 0, .int .i64 0, .slice none 0 0, .int .i64 0, .int .i64 0] 65
  have hk1 : w1.heap[w.heap.size]? = some (.cells #[.int .i64 0, .int .i64 0, .slice none 0 0, .int .i64 0, .int .i64 0] 65 (0, 0)) := by rw [hw1]; exact heap_alloc_new _ _
  have hr1 := hr.below hbe1
  have hb1 : BB w.heap.size R w w1 := BB.of_below hbe1 (Nat.le_refl _)
  rw [← hw1]
  clear hw1 hbe1
  have hz1 : w.heap.size < w1.heap.size := by omega
  refine (rnumber_any bs R w1 s hr1).mono ?_
  rintro e w2 ⟨v, o, s2, rfl, ⟨rfl, ho⟩, ht2, hr2, hc2⟩
  have hk2 := hc2.block' hk1 hz1 (by omega)
  have hy2 := hc2.size
  have hz2 : w.heap.size < w2.heap.size := by omega
  have hb2 := hb1.trans (hc2.mono (by omega))
  have HT2 := Lib.hid ht2
  have HK1 := Lib.hid hk1
  clear ht2 hk1
  have o_1 := ho.1
  have o_2 := ho.2
  go_wp2_with fail
  refine (rnumber_any bs R w2 s2 hr2).mono ?_
  rintro e w3 ⟨v, d, s3, rfl, ⟨rfl, hd⟩, ht3, hr3, hc3⟩
  have hk3 := hc3.block' hk2 hz2 (by omega)
  have hy3 := hc3.size
  have hz3 : w.heap.size < w3.heap.size := by omega
  have hb3 := hb2.trans (hc3.mono (by omega))
  have HT3 := Lib.hid ht3
  have HK2 := Lib.hid hk2
  clear ht3 hk2
  have d_1 := hd.1
  have d_2 := hd.2
  go_wp2_with fail
  refine (rnumbers_any bs R w3 s3 hr3).mono ?_
  rintro e w4 ⟨v, a, s4, rfl, ⟨A, c, rfl, qa⟩, ht4, hr4, hc4⟩
  have hk4 := hc4.block' hk3 hz3 (by omega)
  have hy4 := hc4.size
  have hz4 : w.heap.size < w4.heap.size := by omega
  have hb4 := hb3.trans (hc4.mono (by omega))
  have HT4 := Lib.hid ht4
  have HK3 := Lib.hid hk3
  clear ht4 hk3
  go_wp2_with fail
  refine (anyNumber_any bs R w4 s4 hr4).mono ?_
  rintro e w5 ⟨v, i, s5, rfl, ⟨rfl, hi⟩, ht5, hr5, hc5⟩
  have hk5 := hc5.block' hk4 hz4 (by omega)
  have hy5 := hc5.size
  have hz5 : w.heap.size < w5.heap.size := by omega
  have hb5 := hb4.trans (hc5.mono (by omega))
  have HT5 := Lib.hid ht5
  have HK4 := Lib.hid hk4
  clear ht5 hk4
  go_wp2_with fail
  refine (signed_any i _ hi).mono ?_
  rintro e wq ⟨rfl, rfl⟩
  go_wp2_with fail
  refine (rnumber_any bs R w5 s5 hr5).mono ?_
  rintro e w6 ⟨v, g, s6, rfl, ⟨rfl, hg⟩, ht6, hr6, hc6⟩
  have hk6 := hc6.block' hk5 hz5 (by omega)
  have hy6 := hc6.size
  have hz6 : w.heap.size < w6.heap.size := by omega
  have hb6 := hb5.trans (hc6.mono (by omega))
  have HT6 := Lib.hid ht6
  have HK5 := Lib.hid hk5
  clear ht6 hk5
  have g_1 := hg.1
  have g_2 := hg.2
  have z0 := cell_of_block hk6 0
  have y0 := free_of_block hk6 0
  have z1 := cell_of_block hk6 1
  have y1 := free_of_block hk6 1
  have z2 := cell_of_block hk6 2
  have y2 := free_of_block hk6 2
  have z3 := cell_of_block hk6 3
  have y3 := free_of_block hk6 3
  have z4 := cell_of_block hk6 4
  have y4 := free_of_block hk6 4
  go_wp2_with fail
  have hset := sets5 hk6 (.int .i64 o) (.int .i64 (d - 1)) (.slice A a.length c) (.int .i64 (zag i)) (.int .i64 g)
  generalize (((((w6.setCell ⟨w.heap.size, 0, none⟩ (.int .i64 o)).setCell ⟨w.heap.size, 1, none⟩ (.int .i64 (d - 1))).setCell ⟨w.heap.size, 2, none⟩ (.slice A a.length c)).setCell ⟨w.heap.size, 3, none⟩ (.int .i64 (zag i))).setCell ⟨w.heap.size, 4, none⟩ (.int .i64 g)) = wF at *
  refine bodyPost_ret (results_cell_row rfl _ _ w.heap.size 65 #[.int .i64 o, .int .i64 (d - 1), .slice A a.length c, .int .i64 (zag i), .int .i64 g] (0, 0) _ (by rfl) hset.blk Tryz.underlying65 (by rfl) (by first | kernel_rfl | (obtain ⟨i, h1, _, h3, _⟩ := info_parts Tryz.info65; rw [h1]; exact congrArg some h3))) rfl ?_
  have hK3 : KeptB (fun b => w3.heap.size ≤ b ∧ b < w4.heap.size) w4 wF := (((hc5.kept.mono (fun b hb => by omega))).trans (hc6.kept.mono (fun b hb => by omega))).trans (hset.kept.mono (fun b hb => by omega))
  exact ⟨_, ⟨o, d - 1, a, zag i, g⟩, s6, rfl, ⟨A, c, rfl, SIntsB.go hK3 (fun b hb => by omega) (SIntsB.lt qa), i64_of_ok ho, i64_of_ok1 hd, zag_in hi, i64_of_ok hg⟩, ToldS.and HT2.out (ToldS.and HT3.out (ToldS.and HT4.out (ToldS.and HT5.out (ToldS.and HT6.out (ToldS.ret _ _))))), hset.rd hr6 hlt hk6 (by decide), hset.bb hb6 (Nat.le_refl _)⟩

set_option maxRecDepth 100000 in
set_option maxHeartbeats 2000000 in
theorem readInss_any (bs : List UInt8) (R : Nat) (w : World) (s : St) (hr : Rd bs R w s) :
    Calls Tryz.prog 113 #[.pointer (some ⟨R, 0, none⟩), .int .i64 256, .func (.func 114) #[.pointer (some ⟨R, 0, none⟩)] #[]] w (ToldR bs R (listP insP 256) (VL 5 RInsB) w s) := by
  obtain ⟨i0, p1, p2, p3, p4⟩ := info_parts Tryz.info65
  have HI := Lib.hid (And.intro p1 (And.intro p2 (And.intro p3 p4)))
  clear p1 p2 p3 p4
  have hlt := hr.lt
  go_enter Tryz.func113, Tryz.ntmps113
  go_wp2_with fail
  refine (many_any bs R 256 w s hr (by omega)).mono ?_
  rintro e w1 ⟨v, n, s1, rfl, ⟨rfl, hn0, hn1⟩, ht, hr1, hb1⟩
  obtain ⟨n, rfl⟩ := Int.eq_ofNat_of_zero_le hn0
  have HT := Lib.hid ht
  have hn2 : n ≤ 256 := by omega
  clear hn0 hn1 ht
  go_wp2_with fail
  go_loopw [7, 11] (fun u i wr => ∃ (k : Nat) (l : List InsD) (cs : List Value) (sk : St), k ≤ n ∧ l.length = k ∧ i = .int .i64 k ∧ wr.ownsRow w.heap.size 65 5 u k cs ∧ Rows 5 (CIns (fun b => w.heap.size ≤ b ∧ some b ≠ u.ownBlock) wr) l cs ∧ Rd bs R wr sk ∧ BB w.heap.size R w wr ∧ Hid (Inv insP n k s1 sk l)) (fun _ i _ => n - (intOf i).toNat)
  case atStart => exact ⟨0, [], [], s1, Nat.zero_le _, rfl, rfl, World.ownsRow_nil _ _ _ _, rfl, hr1, hb1, Lib.hid (Inv.zero _ _ _)⟩
  case round =>
    obtain ⟨wo, rfl⟩ : ∃ wo, wo = wr := ⟨wr, rfl⟩
    obtain ⟨k, l, cs, sk, hk, hlk, rfl, hown, hrows, hrd, hbw, hinv⟩ := hrel
    have HLK := Lib.hid hlk
    clear hlk
    have hsw := hbw.size
    by_cases hlt2 : k < n
    · go_wp2_with fail
      refine (rins_any bs R wo sk hrd).mono ?_
      rintro e w2 ⟨v, x, s2, rfl, ⟨A, c, rfl, hx, h64⟩, ht2, hr2, hb2⟩
      have hs2 := hb2.size
      have hown2 : w2.ownsRow w.heap.size 65 5 u7 k cs := own_block hown (fun y hy => hb2.block y (hown.lt y hy).2 (by have := (hown.lt y hy).1; omega))
      have HT2 := Lib.hid ht2
      have HX : Hid (CIns (fun b => wo.heap.size ≤ b) w2 x [.int .i64 x.op, .int .i64 x.dst, .slice A x.args.length c, .int .i64 x.imm, .int .i64 x.fn]) := Lib.hid ⟨A, c, rfl, hx, h64⟩
      clear ht2
      cases s2 with
      | ok r =>
        go_wp2_with (at_builtin; refine wpList_append_lies _ rfl (.tmp 13) (.tmp 16) 59 rfl w.heap.size 65 i0 (.agg #[.int .i64 0, .int .i64 0, .slice none 0 0, .int .i64 0, .int .i64 0]) 5 56 Tryz.underlying59 HI.out.1 HI.out.2.1 HI.out.2.2.1 HI.out.2.2.2 rfl (by decide) u7 k cs rfl (hown2.alloc _) ⟨w2.heap.size, 0, none⟩ 1 1 [.int .i64 x.op, .int .i64 x.dst, .slice A x.args.length c, .int .i64 x.imm, .int .i64 x.fn] rfl rfl (news_cells w2 #[.int .i64 x.op, .int .i64 x.dst, .slice A x.args.length c, .int .i64 x.imm, .int .i64 x.fn] _ rfl) (by simp [Value.oneCell']) (by decide) (by unfold maxLen; omega) (by omega) (by simp; omega) (w2.heap.size + 1) (by simp) ?_; intro g cap w3 hown3 hgr hloc hltg; obtain ⟨hr3, hb3, hrows3⟩ := rl_step (n := k + 1) (cap := cap) (F := CIns) (fun _ _ _ _ _ _ h1 h2 h3 => CIns.go h1 h2 h3) (fun _ _ _ _ h => CIns.lt h) (by decide) hlt hsw hown hrows hb2 hr2 HX.out rfl hgr hloc; have hr30 := hr3; obtain ⟨A3, c3, pos3, ev3, k1, k2, k3, k4⟩ := hr3; obtain ⟨rfl, k5⟩ := k4; have d2 := cell_of_block k1 2; clear k1)
        go_roundw
        case rel => exact ⟨k + 1, l ++ [x], _, .ok r, by omega, by rw [List.length_append, HLK.out]; rfl, by go_num, hown3, hrows3, hr30, hbw.trans hb3, Lib.hid (hinv.out.next hlt2 HT2.out)⟩
        case measure => simp [intOf]; omega
      | bad c' n' =>
        go_wp2_with (at_builtin; refine wpList_append_lies _ rfl (.tmp 13) (.tmp 16) 59 rfl w.heap.size 65 i0 (.agg #[.int .i64 0, .int .i64 0, .slice none 0 0, .int .i64 0, .int .i64 0]) 5 56 Tryz.underlying59 HI.out.1 HI.out.2.1 HI.out.2.2.1 HI.out.2.2.2 rfl (by decide) u7 k cs rfl (hown2.alloc _) ⟨w2.heap.size, 0, none⟩ 1 1 [.int .i64 x.op, .int .i64 x.dst, .slice A x.args.length c, .int .i64 x.imm, .int .i64 x.fn] rfl rfl (news_cells w2 #[.int .i64 x.op, .int .i64 x.dst, .slice A x.args.length c, .int .i64 x.imm, .int .i64 x.fn] _ rfl) (by simp [Value.oneCell']) (by decide) (by unfold maxLen; omega) (by omega) (by simp; omega) (w2.heap.size + 1) (by simp) ?_; intro g cap w3 hown3 hgr hloc hltg; obtain ⟨hr3, hb3, hrows3⟩ := rl_step (n := k + 1) (cap := cap) (F := CIns) (fun _ _ _ _ _ _ h1 h2 h3 => CIns.go h1 h2 h3) (fun _ _ _ _ h => CIns.lt h) (by decide) hlt hsw hown hrows hb2 hr2 HX.out rfl hgr hloc; have hr30 := hr3; obtain ⟨A3, c3, pos3, ev3, k1, k2, k3, k4⟩ := hr3; obtain ⟨g', p', rfl, -⟩ := k4; have d2 := cell_of_block k1 2; clear k1)
        go_ret
        exact ⟨_, [], .bad c' n', rfl, VL.nil _ _ _ _, told_list HT.out (hinv.out.stop hlt2 HT2.out []), hr30, hbw.trans hb3⟩
    · obtain rfl : k = n := by omega
      have HV := Lib.hid (Rows.reads (R := RInsB (fun b => w.heap.size ≤ b)) (hrows.imp (fun y d hy => CIns.go (KeptB.of (Kept.refl _)) (fun b hb => hb.1) hy)) (by rw [HLK.out]; exact hown) (fun g o y d hg hb hF hl hc => CIns.reads (B := fun b => w.heap.size ≤ b) hb hF hc))
      clear hrows
      go_wp2_with fail
      go_ret
      exact ⟨_, l, sk, rfl, HV.out, told_list HT.out hinv.out.done, hrd, hbw⟩

set_option maxRecDepth 100000 in
set_option maxHeartbeats 2000000 in
theorem rblock_any (bs : List UInt8) (R : Nat) (w : World) (s : St) (hr : Rd bs R w s) :
    Calls Tryz.prog 90 #[.pointer (some ⟨R, 0, none⟩)] w (ToldR bs R blkP VBlkB w s) := by
  have hlt := hr.lt
  go_enter Tryz.func90, Tryz.ntmps90
  go_wp2_with fail
  obtain ⟨w1, hw1, hs1, -, hbe1, -, -⟩ := named w #[.slice none 0 0, .slice none 0 0, .int .i64 0, .int .i64 0, .slice none 0 0] 63
  have hk1 : w1.heap[w.heap.size]? = some (.cells #[.slice none 0 0, .slice none 0 0, .int .i64 0, .int .i64 0, .slice none 0 0] 63 (0, 0)) := by rw [hw1]; exact heap_alloc_new _ _
  have hr1 := hr.below hbe1
  have hb1 : BB w.heap.size R w w1 := BB.of_below hbe1 (Nat.le_refl _)
  rw [← hw1]
  clear hw1 hbe1
  have hz1 : w.heap.size < w1.heap.size := by omega
  refine (readPhis_any bs R w1 s hr1).mono ?_
  rintro e w2 ⟨v, p, s2, rfl, ⟨Ap, cp, rfl, qp⟩, ht2, hr2, hc2⟩
  have hk2 := hc2.block' hk1 hz1 (by omega)
  have hy2 := hc2.size
  have hz2 : w.heap.size < w2.heap.size := by omega
  have hb2 := hb1.trans (hc2.mono (by omega))
  have HT2 := Lib.hid ht2
  have HK1 := Lib.hid hk1
  clear ht2 hk1
  go_wp2_with fail
  refine (readInss_any bs R w2 s2 hr2).mono ?_
  rintro e w3 ⟨v, i, s3, rfl, ⟨Ai, ci, rfl, qi⟩, ht3, hr3, hc3⟩
  have hk3 := hc3.block' hk2 hz2 (by omega)
  have hy3 := hc3.size
  have hz3 : w.heap.size < w3.heap.size := by omega
  have hb3 := hb2.trans (hc3.mono (by omega))
  have HT3 := Lib.hid ht3
  have HK2 := Lib.hid hk2
  clear ht3 hk2
  go_wp2_with fail
  refine (rterm_any bs R w3 s3 hr3).mono ?_
  rintro e w4 ⟨v, t, s4, rfl, ⟨At, ct, rfl, qt, hk64, ha64⟩, ht4, hr4, hc4⟩
  have hk4 := hc4.block' hk3 hz3 (by omega)
  have hy4 := hc4.size
  have hz4 : w.heap.size < w4.heap.size := by omega
  have hb4 := hb3.trans (hc4.mono (by omega))
  have HT4 := Lib.hid ht4
  have HK3 := Lib.hid hk3
  clear ht4 hk3
  have z0 := cell_of_block hk4 0
  have y0 := free_of_block hk4 0
  have z1 := cell_of_block hk4 1
  have y1 := free_of_block hk4 1
  have z2 := cell_of_block hk4 2
  have y2 := free_of_block hk4 2
  have z3 := cell_of_block hk4 3
  have y3 := free_of_block hk4 3
  have z4 := cell_of_block hk4 4
  have y4 := free_of_block hk4 4
  go_wp2_with fail
  have hset := sets5 hk4 (.slice Ap p.length cp) (.slice Ai i.length ci) (.int .i64 t.kind) (.int .i64 t.arg) (.slice At t.to.length ct)
  generalize (((((w4.setCell ⟨w.heap.size, 0, none⟩ (.slice Ap p.length cp)).setCell ⟨w.heap.size, 1, none⟩ (.slice Ai i.length ci)).setCell ⟨w.heap.size, 2, none⟩ (.int .i64 t.kind)).setCell ⟨w.heap.size, 3, none⟩ (.int .i64 t.arg)).setCell ⟨w.heap.size, 4, none⟩ (.slice At t.to.length ct)) = wF at *
  refine bodyPost_ret (results_cell_row rfl _ _ w.heap.size 63 #[.slice Ap p.length cp, .slice Ai i.length ci, .int .i64 t.kind, .int .i64 t.arg, .slice At t.to.length ct] (0, 0) _ (by rfl) hset.blk Tryz.underlying63 (by rfl) (by first | kernel_rfl | (obtain ⟨i, h1, _, h3, _⟩ := info_parts Tryz.info63; rw [h1]; exact congrArg some h3))) rfl ?_
  have hK1 : KeptB (fun b => w1.heap.size ≤ b ∧ b < w2.heap.size) w2 wF := (((hc3.kept.mono (fun b hb => by omega))).trans (hc4.kept.mono (fun b hb => by omega))).trans (hset.kept.mono (fun b hb => by omega))
  have hK2 : KeptB (fun b => w2.heap.size ≤ b ∧ b < w3.heap.size) w3 wF := ((hc4.kept.mono (fun b hb => by omega))).trans (hset.kept.mono (fun b hb => by omega))
  have hK3 : KeptB (fun b => w3.heap.size ≤ b ∧ b < w4.heap.size) w4 wF := hset.kept.mono (fun b hb => by omega)
  exact ⟨_, ⟨p, i, t⟩, s4, rfl, ⟨Ap, cp, Ai, ci, At, ct, rfl, SPhisB.go hK1 (fun b hb => by omega) (SPhisB.lt qp), SInssB.go hK2 (fun b hb => by omega) (SInssB.lt qi), SIntsB.go hK3 (fun b hb => by omega) (SIntsB.lt qt), hk64, ha64⟩, ToldS.and HT2.out (ToldS.and HT3.out (ToldS.and HT4.out (ToldS.ret _ _))), hset.rd hr4 hlt hk4 (by decide), hset.bb hb4 (Nat.le_refl _)⟩

set_option maxRecDepth 100000 in
set_option maxHeartbeats 2000000 in
theorem readBlks_any (bs : List UInt8) (R : Nat) (w : World) (s : St) (hr : Rd bs R w s) :
    Calls Tryz.prog 89 #[.pointer (some ⟨R, 0, none⟩), .int .i64 64, .func (.func 90) #[.pointer (some ⟨R, 0, none⟩)] #[]] w (ToldR bs R (listP blkP 64) (VL 5 RBlkB) w s) := by
  obtain ⟨i0, p1, p2, p3, p4⟩ := info_parts Tryz.info63
  have HI := Lib.hid (And.intro p1 (And.intro p2 (And.intro p3 p4)))
  clear p1 p2 p3 p4
  have hlt := hr.lt
  go_enter Tryz.func89, Tryz.ntmps89
  go_wp2_with fail
  refine (many_any bs R 64 w s hr (by omega)).mono ?_
  rintro e w1 ⟨v, n, s1, rfl, ⟨rfl, hn0, hn1⟩, ht, hr1, hb1⟩
  obtain ⟨n, rfl⟩ := Int.eq_ofNat_of_zero_le hn0
  have HT := Lib.hid ht
  have hn2 : n ≤ 64 := by omega
  clear hn0 hn1 ht
  go_wp2_with fail
  go_loopw [7, 11] (fun u i wr => ∃ (k : Nat) (l : List BlkD) (cs : List Value) (sk : St), k ≤ n ∧ l.length = k ∧ i = .int .i64 k ∧ wr.ownsRow w.heap.size 63 5 u k cs ∧ Rows 5 (CBlk (fun b => w.heap.size ≤ b ∧ some b ≠ u.ownBlock) wr) l cs ∧ Rd bs R wr sk ∧ BB w.heap.size R w wr ∧ Hid (Inv blkP n k s1 sk l)) (fun _ i _ => n - (intOf i).toNat)
  case atStart => exact ⟨0, [], [], s1, Nat.zero_le _, rfl, rfl, World.ownsRow_nil _ _ _ _, rfl, hr1, hb1, Lib.hid (Inv.zero _ _ _)⟩
  case round =>
    obtain ⟨wo, rfl⟩ : ∃ wo, wo = wr := ⟨wr, rfl⟩
    obtain ⟨k, l, cs, sk, hk, hlk, rfl, hown, hrows, hrd, hbw, hinv⟩ := hrel
    have HLK := Lib.hid hlk
    clear hlk
    have hsw := hbw.size
    by_cases hlt2 : k < n
    · go_wp2_with fail
      refine (rblock_any bs R wo sk hrd).mono ?_
      rintro e w2 ⟨v, x, s2, rfl, ⟨Ap, cp, Ai, ci, At, ct, rfl, hx⟩, ht2, hr2, hb2⟩
      have hs2 := hb2.size
      have hown2 : w2.ownsRow w.heap.size 63 5 u7 k cs := own_block hown (fun y hy => hb2.block y (hown.lt y hy).2 (by have := (hown.lt y hy).1; omega))
      have HT2 := Lib.hid ht2
      have HX : Hid (CBlk (fun b => wo.heap.size ≤ b) w2 x [.slice Ap x.phis.length cp, .slice Ai x.ins.length ci, .int .i64 x.term.kind, .int .i64 x.term.arg, .slice At x.term.to.length ct]) := Lib.hid ⟨Ap, cp, Ai, ci, At, ct, rfl, hx⟩
      clear ht2
      cases s2 with
      | ok r =>
        go_wp2_with (at_builtin; refine wpList_append_lies _ rfl (.tmp 13) (.tmp 16) 55 rfl w.heap.size 63 i0 (.agg #[.slice none 0 0, .slice none 0 0, .int .i64 0, .int .i64 0, .slice none 0 0]) 5 88 Tryz.underlying55 HI.out.1 HI.out.2.1 HI.out.2.2.1 HI.out.2.2.2 rfl (by decide) u7 k cs rfl (hown2.alloc _) ⟨w2.heap.size, 0, none⟩ 1 1 [.slice Ap x.phis.length cp, .slice Ai x.ins.length ci, .int .i64 x.term.kind, .int .i64 x.term.arg, .slice At x.term.to.length ct] rfl rfl (news_cells w2 #[.slice Ap x.phis.length cp, .slice Ai x.ins.length ci, .int .i64 x.term.kind, .int .i64 x.term.arg, .slice At x.term.to.length ct] _ rfl) (by simp [Value.oneCell']) (by decide) (by unfold maxLen; omega) (by omega) (by simp; omega) (w2.heap.size + 1) (by simp) ?_; intro g cap w3 hown3 hgr hloc hltg; obtain ⟨hr3, hb3, hrows3⟩ := rl_step (n := k + 1) (cap := cap) (F := CBlk) (fun _ _ _ _ _ _ h1 h2 h3 => CBlk.go h1 h2 h3) (fun _ _ _ _ h => CBlk.lt h) (by decide) hlt hsw hown hrows hb2 hr2 HX.out rfl hgr hloc; have hr30 := hr3; obtain ⟨A3, c3, pos3, ev3, k1, k2, k3, k4⟩ := hr3; obtain ⟨rfl, k5⟩ := k4; have d2 := cell_of_block k1 2; clear k1)
        go_roundw
        case rel => exact ⟨k + 1, l ++ [x], _, .ok r, by omega, by rw [List.length_append, HLK.out]; rfl, by go_num, hown3, hrows3, hr30, hbw.trans hb3, Lib.hid (hinv.out.next hlt2 HT2.out)⟩
        case measure => simp [intOf]; omega
      | bad c' n' =>
        go_wp2_with (at_builtin; refine wpList_append_lies _ rfl (.tmp 13) (.tmp 16) 55 rfl w.heap.size 63 i0 (.agg #[.slice none 0 0, .slice none 0 0, .int .i64 0, .int .i64 0, .slice none 0 0]) 5 88 Tryz.underlying55 HI.out.1 HI.out.2.1 HI.out.2.2.1 HI.out.2.2.2 rfl (by decide) u7 k cs rfl (hown2.alloc _) ⟨w2.heap.size, 0, none⟩ 1 1 [.slice Ap x.phis.length cp, .slice Ai x.ins.length ci, .int .i64 x.term.kind, .int .i64 x.term.arg, .slice At x.term.to.length ct] rfl rfl (news_cells w2 #[.slice Ap x.phis.length cp, .slice Ai x.ins.length ci, .int .i64 x.term.kind, .int .i64 x.term.arg, .slice At x.term.to.length ct] _ rfl) (by simp [Value.oneCell']) (by decide) (by unfold maxLen; omega) (by omega) (by simp; omega) (w2.heap.size + 1) (by simp) ?_; intro g cap w3 hown3 hgr hloc hltg; obtain ⟨hr3, hb3, hrows3⟩ := rl_step (n := k + 1) (cap := cap) (F := CBlk) (fun _ _ _ _ _ _ h1 h2 h3 => CBlk.go h1 h2 h3) (fun _ _ _ _ h => CBlk.lt h) (by decide) hlt hsw hown hrows hb2 hr2 HX.out rfl hgr hloc; have hr30 := hr3; obtain ⟨A3, c3, pos3, ev3, k1, k2, k3, k4⟩ := hr3; obtain ⟨g', p', rfl, -⟩ := k4; have d2 := cell_of_block k1 2; clear k1)
        go_ret
        exact ⟨_, [], .bad c' n', rfl, VL.nil _ _ _ _, told_list HT.out (hinv.out.stop hlt2 HT2.out []), hr30, hbw.trans hb3⟩
    · obtain rfl : k = n := by omega
      have HV := Lib.hid (Rows.reads (R := RBlkB (fun b => w.heap.size ≤ b)) (hrows.imp (fun y d hy => CBlk.go (KeptB.of (Kept.refl _)) (fun b hb => hb.1) hy)) (by rw [HLK.out]; exact hown) (fun g o y d hg hb hF hl hc => CBlk.reads (B := fun b => w.heap.size ≤ b) hb hF hc))
      clear hrows
      go_wp2_with fail
      go_ret
      exact ⟨_, l, sk, rfl, HV.out, told_list HT.out hinv.out.done, hrd, hbw⟩

set_option maxRecDepth 100000 in
set_option maxHeartbeats 2000000 in
theorem rfunction_any (bs : List UInt8) (R : Nat) (w : World) (s : St) (hr : Rd bs R w s) :
    Calls Tryz.prog 57 #[.pointer (some ⟨R, 0, none⟩)] w (ToldR bs R funP VFunB w s) := by
  have hlt := hr.lt
  go_enter Tryz.func57, Tryz.ntmps57
  go_wp2_with fail
  obtain ⟨w1, hw1, hs1, -, hbe1, -, -⟩ := named w #[.int .i64 0, .int .i64 0, .slice none 0 0, .slice none 0 0] 57
  have hk1 : w1.heap[w.heap.size]? = some (.cells #[.int .i64 0, .int .i64 0, .slice none 0 0, .slice none 0 0] 57 (0, 0)) := by rw [hw1]; exact heap_alloc_new _ _
  have hr1 := hr.below hbe1
  have hb1 : BB w.heap.size R w w1 := BB.of_below hbe1 (Nat.le_refl _)
  rw [← hw1]
  clear hw1 hbe1
  have hz1 : w.heap.size < w1.heap.size := by omega
  refine (rnumber_any bs R w1 s hr1).mono ?_
  rintro e w2 ⟨v, p, s2, rfl, ⟨rfl, hp⟩, ht2, hr2, hc2⟩
  have hk2 := hc2.block' hk1 hz1 (by omega)
  have hy2 := hc2.size
  have hz2 : w.heap.size < w2.heap.size := by omega
  have hb2 := hb1.trans (hc2.mono (by omega))
  have HT2 := Lib.hid ht2
  have HK1 := Lib.hid hk1
  clear ht2 hk1
  have p_1 := hp.1
  have p_2 := hp.2
  go_wp2_with fail
  refine (rnumber_any bs R w2 s2 hr2).mono ?_
  rintro e w3 ⟨v, rs, s3, rfl, ⟨rfl, hrs⟩, ht3, hr3, hc3⟩
  have hk3 := hc3.block' hk2 hz2 (by omega)
  have hy3 := hc3.size
  have hz3 : w.heap.size < w3.heap.size := by omega
  have hb3 := hb2.trans (hc3.mono (by omega))
  have HT3 := Lib.hid ht3
  have HK2 := Lib.hid hk2
  clear ht3 hk2
  have rs_1 := hrs.1
  have rs_2 := hrs.2
  go_wp2_with fail
  refine (rnumbers_any bs R w3 s3 hr3).mono ?_
  rintro e w4 ⟨v, g, s4, rfl, ⟨Ar, cr, rfl, qg⟩, ht4, hr4, hc4⟩
  have hk4 := hc4.block' hk3 hz3 (by omega)
  have hy4 := hc4.size
  have hz4 : w.heap.size < w4.heap.size := by omega
  have hb4 := hb3.trans (hc4.mono (by omega))
  have HT4 := Lib.hid ht4
  have HK3 := Lib.hid hk3
  clear ht4 hk3
  go_wp2_with fail
  refine (readBlks_any bs R w4 s4 hr4).mono ?_
  rintro e w5 ⟨v, b, s5, rfl, ⟨Ab, cb, rfl, qb⟩, ht5, hr5, hc5⟩
  have hk5 := hc5.block' hk4 hz4 (by omega)
  have hy5 := hc5.size
  have hz5 : w.heap.size < w5.heap.size := by omega
  have hb5 := hb4.trans (hc5.mono (by omega))
  have HT5 := Lib.hid ht5
  have HK4 := Lib.hid hk4
  clear ht5 hk4
  have z0 := cell_of_block hk5 0
  have y0 := free_of_block hk5 0
  have z1 := cell_of_block hk5 1
  have y1 := free_of_block hk5 1
  have z2 := cell_of_block hk5 2
  have y2 := free_of_block hk5 2
  have z3 := cell_of_block hk5 3
  have y3 := free_of_block hk5 3
  go_wp2_with fail
  have hset := sets4 hk5 (.int .i64 p) (.int .i64 rs) (.slice Ar g.length cr) (.slice Ab b.length cb)
  generalize ((((w5.setCell ⟨w.heap.size, 0, none⟩ (.int .i64 p)).setCell ⟨w.heap.size, 1, none⟩ (.int .i64 rs)).setCell ⟨w.heap.size, 2, none⟩ (.slice Ar g.length cr)).setCell ⟨w.heap.size, 3, none⟩ (.slice Ab b.length cb)) = wF at *
  refine bodyPost_ret (results_cell_row rfl _ _ w.heap.size 57 #[.int .i64 p, .int .i64 rs, .slice Ar g.length cr, .slice Ab b.length cb] (0, 0) _ (by rfl) hset.blk Tryz.underlying57 (by rfl) (by first | kernel_rfl | (obtain ⟨i, h1, _, h3, _⟩ := info_parts Tryz.info57; rw [h1]; exact congrArg some h3))) rfl ?_
  have hK3 : KeptB (fun b => w3.heap.size ≤ b ∧ b < w4.heap.size) w4 wF := ((hc5.kept.mono (fun b hb => by omega))).trans (hset.kept.mono (fun b hb => by omega))
  have hK4 : KeptB (fun b => w4.heap.size ≤ b ∧ b < w5.heap.size) w5 wF := hset.kept.mono (fun b hb => by omega)
  exact ⟨_, ⟨p, rs, g, b⟩, s5, rfl, ⟨Ar, cr, Ab, cb, rfl, SIntsB.go hK3 (fun b hb => by omega) (SIntsB.lt qg), SBlksB.go hK4 (fun b hb => by omega) (SBlksB.lt qb), i64_of_ok hp, i64_of_ok hrs⟩, ToldS.and HT2.out (ToldS.and HT3.out (ToldS.and HT4.out (ToldS.and HT5.out (ToldS.ret _ _)))), hset.rd hr5 hlt hk5 (by decide), hset.bb hb5 (Nat.le_refl _)⟩

set_option maxRecDepth 100000 in
set_option maxHeartbeats 2000000 in
theorem readFuns_any (bs : List UInt8) (R : Nat) (w : World) (s : St) (hr : Rd bs R w s) :
    Calls Tryz.prog 56 #[.pointer (some ⟨R, 0, none⟩), .int .i64 32, .func (.func 57) #[.pointer (some ⟨R, 0, none⟩)] #[]] w (ToldR bs R (listP funP 32) (VL 4 RFunB) w s) := by
  obtain ⟨i0, p1, p2, p3, p4⟩ := info_parts Tryz.info57
  have HI := Lib.hid (And.intro p1 (And.intro p2 (And.intro p3 p4)))
  clear p1 p2 p3 p4
  have hlt := hr.lt
  go_enter Tryz.func56, Tryz.ntmps56
  go_wp2_with fail
  refine (many_any bs R 32 w s hr (by omega)).mono ?_
  rintro e w1 ⟨v, n, s1, rfl, ⟨rfl, hn0, hn1⟩, ht, hr1, hb1⟩
  obtain ⟨n, rfl⟩ := Int.eq_ofNat_of_zero_le hn0
  have HT := Lib.hid ht
  have hn2 : n ≤ 32 := by omega
  clear hn0 hn1 ht
  go_wp2_with fail
  go_loopw [7, 11] (fun u i wr => ∃ (k : Nat) (l : List FunD) (cs : List Value) (sk : St), k ≤ n ∧ l.length = k ∧ i = .int .i64 k ∧ wr.ownsRow w.heap.size 57 4 u k cs ∧ Rows 4 (CFun (fun b => w.heap.size ≤ b ∧ some b ≠ u.ownBlock) wr) l cs ∧ Rd bs R wr sk ∧ BB w.heap.size R w wr ∧ Hid (Inv funP n k s1 sk l)) (fun _ i _ => n - (intOf i).toNat)
  case atStart => exact ⟨0, [], [], s1, Nat.zero_le _, rfl, rfl, World.ownsRow_nil _ _ _ _, rfl, hr1, hb1, Lib.hid (Inv.zero _ _ _)⟩
  case round =>
    obtain ⟨wo, rfl⟩ : ∃ wo, wo = wr := ⟨wr, rfl⟩
    obtain ⟨k, l, cs, sk, hk, hlk, rfl, hown, hrows, hrd, hbw, hinv⟩ := hrel
    have HLK := Lib.hid hlk
    clear hlk
    have hsw := hbw.size
    by_cases hlt2 : k < n
    · go_wp2_with fail
      refine (rfunction_any bs R wo sk hrd).mono ?_
      rintro e w2 ⟨v, x, s2, rfl, ⟨Ar, cr, Ab, cb, rfl, hx⟩, ht2, hr2, hb2⟩
      have hs2 := hb2.size
      have hown2 : w2.ownsRow w.heap.size 57 4 u7 k cs := own_block hown (fun y hy => hb2.block y (hown.lt y hy).2 (by have := (hown.lt y hy).1; omega))
      have HT2 := Lib.hid ht2
      have HX : Hid (CFun (fun b => wo.heap.size ≤ b) w2 x [.int .i64 x.params, .int .i64 x.result, .slice Ar x.regs.length cr, .slice Ab x.blocks.length cb]) := Lib.hid ⟨Ar, cr, Ab, cb, rfl, hx⟩
      clear ht2
      cases s2 with
      | ok r =>
        go_wp2_with (at_builtin; refine wpList_append_lies _ rfl (.tmp 13) (.tmp 16) 22 rfl w.heap.size 57 i0 (.agg #[.int .i64 0, .int .i64 0, .slice none 0 0, .slice none 0 0]) 4 64 Tryz.underlying22 HI.out.1 HI.out.2.1 HI.out.2.2.1 HI.out.2.2.2 rfl (by decide) u7 k cs rfl (hown2.alloc _) ⟨w2.heap.size, 0, none⟩ 1 1 [.int .i64 x.params, .int .i64 x.result, .slice Ar x.regs.length cr, .slice Ab x.blocks.length cb] rfl rfl (news_cells w2 #[.int .i64 x.params, .int .i64 x.result, .slice Ar x.regs.length cr, .slice Ab x.blocks.length cb] _ rfl) (by simp [Value.oneCell']) (by decide) (by unfold maxLen; omega) (by omega) (by simp; omega) (w2.heap.size + 1) (by simp) ?_; intro g cap w3 hown3 hgr hloc hltg; obtain ⟨hr3, hb3, hrows3⟩ := rl_step (n := k + 1) (cap := cap) (F := CFun) (fun _ _ _ _ _ _ h1 h2 h3 => CFun.go h1 h2 h3) (fun _ _ _ _ h => CFun.lt h) (by decide) hlt hsw hown hrows hb2 hr2 HX.out rfl hgr hloc; have hr30 := hr3; obtain ⟨A3, c3, pos3, ev3, k1, k2, k3, k4⟩ := hr3; obtain ⟨rfl, k5⟩ := k4; have d2 := cell_of_block k1 2; clear k1)
        go_roundw
        case rel => exact ⟨k + 1, l ++ [x], _, .ok r, by omega, by rw [List.length_append, HLK.out]; rfl, by go_num, hown3, hrows3, hr30, hbw.trans hb3, Lib.hid (hinv.out.next hlt2 HT2.out)⟩
        case measure => simp [intOf]; omega
      | bad c' n' =>
        go_wp2_with (at_builtin; refine wpList_append_lies _ rfl (.tmp 13) (.tmp 16) 22 rfl w.heap.size 57 i0 (.agg #[.int .i64 0, .int .i64 0, .slice none 0 0, .slice none 0 0]) 4 64 Tryz.underlying22 HI.out.1 HI.out.2.1 HI.out.2.2.1 HI.out.2.2.2 rfl (by decide) u7 k cs rfl (hown2.alloc _) ⟨w2.heap.size, 0, none⟩ 1 1 [.int .i64 x.params, .int .i64 x.result, .slice Ar x.regs.length cr, .slice Ab x.blocks.length cb] rfl rfl (news_cells w2 #[.int .i64 x.params, .int .i64 x.result, .slice Ar x.regs.length cr, .slice Ab x.blocks.length cb] _ rfl) (by simp [Value.oneCell']) (by decide) (by unfold maxLen; omega) (by omega) (by simp; omega) (w2.heap.size + 1) (by simp) ?_; intro g cap w3 hown3 hgr hloc hltg; obtain ⟨hr3, hb3, hrows3⟩ := rl_step (n := k + 1) (cap := cap) (F := CFun) (fun _ _ _ _ _ _ h1 h2 h3 => CFun.go h1 h2 h3) (fun _ _ _ _ h => CFun.lt h) (by decide) hlt hsw hown hrows hb2 hr2 HX.out rfl hgr hloc; have hr30 := hr3; obtain ⟨A3, c3, pos3, ev3, k1, k2, k3, k4⟩ := hr3; obtain ⟨g', p', rfl, -⟩ := k4; have d2 := cell_of_block k1 2; clear k1)
        go_ret
        exact ⟨_, [], .bad c' n', rfl, VL.nil _ _ _ _, told_list HT.out (hinv.out.stop hlt2 HT2.out []), hr30, hbw.trans hb3⟩
    · obtain rfl : k = n := by omega
      have HV := Lib.hid (Rows.reads (R := RFunB (fun b => w.heap.size ≤ b)) (hrows.imp (fun y d hy => CFun.go (KeptB.of (Kept.refl _)) (fun b hb => hb.1) hy)) (by rw [HLK.out]; exact hown) (fun g o y d hg hb hF hl hc => CFun.reads (B := fun b => w.heap.size ≤ b) hb hF hc))
      clear hrows
      go_wp2_with fail
      go_ret
      exact ⟨_, l, sk, rfl, HV.out, told_list HT.out hinv.out.done, hrd, hbw⟩

end Go.Proofs.YtoidhjmhakajlaaGreatDoor
