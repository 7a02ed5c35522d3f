/- errors.Is of a Spot at its Code; Is. -/
import Derived.Test.YtoidhjmhakajlaaGreatDoorErrAs
import Derived.Test.YtoidhjmhakajlaaGreatDoorInsG
import Derived.Test.YtoidhjmhakajlaaGreatDoorEqEJ
import Derived.Test.YtoidhjmhakajlaaGreatDoorSpecJ
import Derived.Test.YtoidhjmhakajlaaGreatDoorIns
namespace Go.Proofs.YtoidhjmhakajlaaGreatDoor
open Go.ChangeShapes Go.WideShapes Go.RowKit Go.Deep Go.Extern.Stop Go.Stop Go.Extern
set_option linter.unusedVariables false

set_option maxRecDepth 100000 in
set_option maxHeartbeats 4000000 in
/-- Its loop: the Spot isn't it, what it bears is. -/
theorem is_loop (g : Nat) (c : Int) (w : World) (hs : w.cell? ⟨g, 1, none⟩ = some (.iface 51 (.int .i64 c))) :
    Calls Tryz.prog 71 #[.iface 70 (.pointer (some ⟨g, 0, none⟩)), .iface 51 (.int .i64 c), .bool true] w fun ev w' => ev = .returned (.bool true) ∧ w' = w := by
  have c4 := asrt_spotIs
  have c5 := asrt_spotUnwrap
  have mU := rlf_methodUnwrap
  have q1 := fun v u w => run_eql_iface_types (P := Tryz.prog) 70 51 v u Tryz.underlying29 (by decide) w
  have q2 := eqlErr
  go_enter Tryz.func71, Tryz.ntmps71
  go_wp2
  refine wp_loop_rounds 2 ?_
  rw [rounds_succ]
  go_wp2
  rw [rounds_succ]
  go_wp2
  go_ret
  exact ⟨rfl, rfl⟩

set_option maxRecDepth 100000 in
set_option maxHeartbeats 4000000 in
/-- errors.Is of a Spot at the Code that it bears. -/
theorem is_spot (g : Nat) (c : Int) (w : World) (hs : w.cell? ⟨g, 1, none⟩ = some (.iface 51 (.int .i64 c))) :
    Calls Tryz.prog 42 #[.iface 70 (.pointer (some ⟨g, 0, none⟩)), .iface 51 (.int .i64 c)] w fun ev w' => ev = .returned (.bool true) ∧ w' = w := by
  have h10 := @run_callFunc_extern Tryz.prog 70 _ ReflectliteType.typeOf Tryz.func70 (by kernel_rfl) (by kernel_rfl) (by kernel_rfl) (by kernel_rfl)
  have h69 := @run_callFunc_extern Tryz.prog 179 _ (ReflectliteType.method (fun t => do Rtype.noPackHeld "Comparable" t; pure (.bool (← typeInfo t).comparable))) Tryz.func179 (by kernel_rfl) (by kernel_rfl) (by kernel_rfl) (by kernel_rfl)
  have tO := rlf_typeOfCode
  have mC := rlf_methodComparable
  have cC := rlf_comparableCode
  have c4 := asrt_spotIs
  have c5 := asrt_spotUnwrap
  have mU := rlf_methodUnwrap
  have q1 := fun v u w => run_eql_iface_types (P := Tryz.prog) 70 51 v u Tryz.underlying29 (by decide) w
  have q2 := eqlErr
  go_enter Tryz.func42, Tryz.ntmps42
  go_wp2_with fail
  refine (is_loop g c w hs).mono ?_
  rintro e w' ⟨rfl, rfl⟩
  go_wp2_with fail
  go_ret
  exact ⟨rfl, rfl⟩

theorem spotInfo : Tryz.prog.info? 70 = some ((Tryz.prog.info? 70).get!) := by kernel_rfl
theorem spotComp : ((Tryz.prog.info? 70).get!).comparable = true := by kernel_rfl
theorem spotPInfo : Tryz.prog.info? 75 = some ((Tryz.prog.info? 75).get!) := by kernel_rfl
theorem neqSpot (a : Addr) (w : World) : (binOp .neq 29 (.iface 70 (.pointer (some a))) (.iface 70 (.pointer (some a)))).run Tryz.prog w = .ok (.bool false) w := by
  have h := run_equalIn_iface_ptr_same (P := Tryz.prog) (w := w) 9998 (ti := 29) (tp := 70) a Tryz.underlying29 Tryz.underlying70 spotInfo spotComp spotPInfo
  simp only [binOp]
  simp [Op.equal, Op.maxDepth, h]

set_option maxRecDepth 100000 in
set_option maxHeartbeats 4000000 in
/-- Is, of a Spot at its place with its Code. -/
theorem is_any (g : Nat) (c n : Int) (w : World) (hg : w.cell? ⟨0, 0, none⟩ = some (.iface 155 (.agg #[.pointer (some ⟨1, 29, none⟩)]))) (h0 : w.cell? ⟨g, 0, none⟩ = some (.int .i64 n)) (h1 : w.cell? ⟨g, 1, none⟩ = some (.iface 51 (.int .i64 c))) :
    Calls Tryz.prog 21 #[.iface 70 (.pointer (some ⟨g, 0, none⟩)), .int .i64 n, .int .i64 c] w fun e w' => e = .returned (.bool true) ∧ Below w.heap.size w w' := by
  have q2 := eqlErr
  have hlt : 0 < w.heap.size := by
    rcases Nat.eq_zero_or_pos w.heap.size with h0 | h
    · simp [World.cell?, h0] at hg
    · exact h
  have q1 := neqSpot
  go_enter Tryz.func21, Tryz.ntmps21
  go_wp2_with fail
  obtain ⟨w1, hw1, hs1, hk1, hb1, hc1, hf1⟩ := named w #[.pointer none] 70
  rw [← hw1]
  refine (as_spot ⟨g, 0, none⟩ ⟨w.heap.size, 0, none⟩ (.pointer none) w1 (hk1 _ _ hg) (hc1 0 _ rfl) (hf1 0)).mono ?_
  rintro e w2 ⟨rfl, hw2⟩
  have hb2 : Below w.heap.size w w2 := by
    rw [hw2]
    exact ((((hb1.alloc hb1.size _).alloc (by simp; omega) _).alloc (by simp; omega) _).alloc (by simp; omega) _).setCell (Nat.le_refl _) _
  have hc2 : w2.cell? ⟨w.heap.size, 0, none⟩ = some (.pointer (some ⟨g, 0, none⟩)) := by
    rw [hw2]
    have hbx : w1.heap[w.heap.size]? = some (.cells #[.pointer none] 70 (0, 0)) := by rw [hw1]; exact heap_alloc_new _ _
    have hl1 : w.heap.size < w1.heap.size := by omega
    have e : ∀ (W : World) (o : Obj), W.heap[w.heap.size]? = some (.cells #[.pointer none] 70 (0, 0)) → (W.alloc o).heap[w.heap.size]? = some (.cells #[.pointer none] 70 (0, 0)) := fun W o h => by
      have hl := block_lt h
      show (W.heap.push o)[w.heap.size]? = _
      rw [Array.getElem?_push, if_neg (by omega)]; exact h
    have h4 := set_of_block (i := 0) (.pointer (some ⟨g, 0, none⟩)) (e _ (.cells #[.pointer (some ⟨g, 0, none⟩)] 70) (e _ (.cells #[.pointer (some ⟨1, 72, none⟩), .pointer (some ⟨w1.heap.size, 0, none⟩), .int .u64 150] 112) (e _ (.cells #[.pointer (some ⟨1, 72, none⟩), .pointer (some ⟨w1.heap.size, 0, none⟩), .int .u64 150] 112) (e _ (.cells #[.pointer (some ⟨w.heap.size, 0, none⟩)] 72) hbx))))
    exact cell_of_heap h4 0
  clear hw2 hc1 hf1 hw1 hs1
  have h0 := kept_of_below hb2 _ _ h0
  have h1 := kept_of_below hb2 _ _ h1
  have hs2 : w.heap.size < w2.heap.size := block_lt_of_cell hc2
  go_wp2_with fail
  refine (is_spot g c w2 h1).mono ?_
  rintro e w' ⟨rfl, rfl⟩
  go_wp2_with fail
  go_ret
  exact ⟨rfl, hb2⟩
end Go.Proofs.YtoidhjmhakajlaaGreatDoor

/- The examples at the head of the statements of layer 3 hold. -/
namespace Go.Proofs.YtoidhjmhakajlaaGreatDoor
open Go.ChangeShapes Go.WideShapes Go.RowKit Go.Deep
set_option linter.unusedVariables false

/-- The variable errors.errorType holds the type error's handle. -/
def HoldsErr (w : World) : Prop := w.cell? ⟨0, 0, none⟩ = some (.iface 155 (.agg #[.pointer (some ⟨1, 29, none⟩)]))
theorem holdsErr_below : ∀ (w w' : World) (n : Nat), HoldsErr w → 0 < n → Below n w w' → HoldsErr w' := fun w w' n hL hn hb =>
  (hb.cell (p := ⟨0, 0, none⟩) hn).trans hL
theorem HoldsErr.pos {w : World} (h : HoldsErr w) : 0 < w.heap.size := block_lt_of_cell h

theorem SBytes.keep {w w' : World} (h : Kept w w') {A : Option Addr} {c : Nat} {l : List UInt8} (hv : SL w 1 RByte A c l) : SL w' 1 RByte A c l := SL.imp (fun b o x hx => h _ _ hx) hv
/-- Bytes that were made read as they are. -/
theorem bytes_of_new {w w' : World} {b : Value} {ys : List UInt8} (h : NewB w w' b ys) : ∃ g c, b = .slice (some ⟨g, 0, none⟩) ys.length c ∧ SL w' 1 RByte (some ⟨g, 0, none⟩) c ys := by
  obtain ⟨g, cap, rfl, ho⟩ := h
  refine ⟨g, cap, rfl, ?_⟩
  rcases ho.2 with ⟨h, _⟩ | ⟨g', c', cur, h, hb, hh, hn, hc, hsz, ht⟩
  · cases h
  · simp only [Value.slice.injEq, Option.some.injEq, Addr.mk.injEq] at h
    obtain ⟨⟨rfl, -, -⟩, -, rfl⟩ := h
    refine ⟨hn, ⟨hc, fun e => by cases e⟩, fun _ => ⟨g, 0, rfl, fun i x hi => ?_⟩⟩
    have := ho.cells (g := g) rfl i (bv x) (by rw [List.getElem?_map, hi]; rfl)
    rw [add_plain'] at this
    rwa [show 0 + i * 1 = 0 + i by omega]
/-- A text out of bytes. -/
theorem conv_bytes {w : World} {A : Option Addr} {c : Nat} {ys : List UInt8} (h : SL w 1 RByte A c ys) : (convert 27 9 (.slice A ys.length c)).run Tryz.prog w = .ok (.string ⟨ys.toArray⟩) w := by
  cases A with
  | none =>
    obtain rfl : c = 0 := h.2.1.2 rfl
    obtain rfl : ys = [] := List.length_eq_zero_iff.1 (by have := h.1; omega)
    kernel_rfl
  | some a =>
    refine run_convert_bytes_back (P := Tryz.prog) w 27 9 5 a c ys Tryz.underlying27 Tryz.underlying5 Tryz.underlying9 (fun j hj => ?_)
    obtain ⟨b, o, e, hx⟩ := h.2.2 (by omega)
    obtain rfl := Option.some.inj e
    have := hx j ys[j] (List.getElem?_eq_getElem hj)
    rw [Nat.mul_one] at this
    rw [add_plain']
    exact this
theorem modB_nil : modB [] = [102, 116, 108, 49, 0] := by
  unfold modB funsB
  rw [numB_lt (by decide)]
  decide
theorem modE_nil : modE [] = (0, -1) := by unfold modE; rfl
theorem decE_nil : decE [] = (2, 0) := by decide
theorem decM_nil : decM [] = [] := by decide

set_option maxRecDepth 100000 in
set_option maxHeartbeats 2000000 in
theorem up_any (OI : OfIns) (w : World) (hg : HoldsErr w) : Calls Tryz.prog 6 #[] w fun e w' => e = .returned (.bool true) ∧ Below w.heap.size w w' := by
  go_enter Tryz.func6, Tryz.ntmps6
  go_wp2_with fail
  refine (encode_any OI [] _ w ⟨none, 0, rfl, funs_nil w⟩ (fun f hf => by cases hf)).mono ?_
  rintro e w1 ⟨b, v, rfl, he, -, hn, hb1⟩
  obtain rfl := he.nil (by rw [modE_nil])
  obtain ⟨g, cap, rfl, hsb⟩ := bytes_of_new (hn (by rw [modE_nil]))
  clear hn he
  rw [modB_nil] at hsb ⊢
  go_wp2_with fail
  refine (decode_any OI [] none 0 w1 (bytes_none 0 (by unfold maxLen; omega) (fun _ => rfl))).mono ?_
  rintro e w2 ⟨A2, c2, ev, rfl, hm2, he2, hb2⟩
  rw [decE_nil] at he2
  rw [decM_nil] at hm2 ⊢
  have hB2 : Below w.heap.size w w2 := hb1.trans (hb2.mono hb1.size)
  have hg2 := holdsErr_below w w2 _ hg hg.pos hB2
  rcases he2 with ⟨h, _⟩ | ⟨_, h, _⟩ | ⟨-, -, gs, rfl, hs0, hs1⟩
  · exact absurd h (by decide)
  · exact absurd h (by decide)
  · have hcv := Lib.hid (conv_bytes (SBytes.keep ((kept_of_below hb2).trans (kept_alloc w2 (.cells #[.slice A2 ([] : List FunD).length c2] 24))) hsb))
    have hcv := hcv.out
    have hi := Lib.hid (is_any gs 2 0 (w2.alloc (.cells #[.slice A2 0 c2] 24)) (kept_alloc _ _ _ _ hg2) (kept_alloc _ _ _ _ hs0) (kept_alloc _ _ _ _ hs1))
    dsimp only [List.length_nil, List.length_cons] at hcv
    go_wp2_with fail
    refine hi.out.mono ?_
    rintro e w3 ⟨rfl, hb3⟩
    go_wp2_with fail
    go_ret
    exact ⟨rfl, (hB2.alloc hB2.size _).trans (hb3.mono (by have := hB2.size; simp; omega))⟩
end Go.Proofs.YtoidhjmhakajlaaGreatDoor

/- The reference's Small: what it lets by is small. -/
namespace Go.Proofs.YtoidhjmhakajlaaGreatDoor
open Go.ChangeShapes Go.WideShapes Go.RowKit Go.Deep
set_option linter.unusedVariables false

def Says (p : Prop) (B : Nat) (w : World) (e : Ending) (w' : World) : Prop := (∃ b : Bool, e = .returned (.bool b) ∧ (b = true → p)) ∧ Below B w w'
theorem Says.no {p : Prop} {B : Nat} {w w' : World} (h : Below B w w') : Says p B w (.returned (.bool false)) w' := ⟨⟨false, rfl, fun h => by cases h⟩, h⟩

set_option maxRecDepth 100000 in
set_option maxHeartbeats 4000000 in
theorem small_any (m : List FunD) (v : Value) (w : World) (hv : VMod w v m) :
    Calls Tryz.prog 7 #[v] w (Says (SmallM m) w.heap.size w) := by
  obtain ⟨A, c, rfl, hm⟩ := hv
  have hml := hm.len
  by_cases h40 : 40 < m.length
  · go_enter Tryz.func7, Tryz.ntmps7
    go_wp2_with fail
    go_ret
    exact Says.no ((Below.refl _ _).alloc (Nat.le_refl _) _)
  · go_enter Tryz.func7, Tryz.ntmps7
    go_wp2_with fail
    obtain ⟨w1, hw1, hs1, hk1, hbel1, hc1, -⟩ := named w #[.slice A m.length c] 24
    have hc1 := hc1 0 _ rfl
    have hs1 : w.heap.size < w1.heap.size := by omega
    rw [← hw1]
    clear hw1
    go_loopw [3] (fun i wr => ∃ k : Nat, k ≤ m.length ∧ i = .int .i64 k ∧ Below w1.heap.size w1 wr ∧ Upto SmallF m k) (fun i _ => m.length - (intOf i).toNat)
    case atStart => exact ⟨0, Nat.zero_le _, rfl, Below.refl _ _, Upto.zero⟩
    case round =>
      obtain ⟨k, hk, rfl, hbel, hup⟩ := hrel
      obtain ⟨wo, rfl⟩ : ∃ wo, wo = wr := ⟨wr, rfl⟩
      have hs := hbel.size
      have hkw : Kept w1 wo := kept_of_below hbel
      have hbox := hkw _ _ hc1
      have hB : Below w.heap.size w wo := hbel1.trans (hbel.mono (by omega))
      by_cases hlt : k < m.length
      · obtain ⟨b, o, f, rfl, hf, ⟨hp, -⟩, ⟨hr, -⟩, ⟨Ar, cr, hreg, hregs⟩, ⟨Ab, cb, hblk, hblks⟩⟩ := (SFuns.keep (hk1.trans hkw) hm).at_ hlt
        have hrl := hregs.len
        have hbl := hblks.len
        by_cases hok : f.blocks.length ≤ 70 ∧ f.regs.length ≤ 300 ∧ f.params ≤ 1000
        · obtain ⟨ho1, ho2, ho3⟩ := hok
          go_wp2_with fail
          clear hp hr hreg
          obtain ⟨w2, hw2, hs2, hk2, hbel2, hc2, -⟩ := named wo #[.int .i64 f.params, .int .i64 f.result, .slice Ar f.regs.length cr, .slice Ab f.blocks.length cb] 57
          have hc2 := hc2 3 _ rfl
          have hs2 : wo.heap.size < w2.heap.size := by omega
          rw [← hw2]
          clear hw2 hblk
          go_loopw [5] (fun i wr => ∃ j : Nat, j ≤ f.blocks.length ∧ i = .int .i64 j ∧ Below w2.heap.size w2 wr ∧ Upto SmallB f.blocks j) (fun i _ => f.blocks.length - (intOf i).toNat)
          case atStart => exact ⟨0, Nat.zero_le _, rfl, Below.refl _ _, Upto.zero⟩
          case round =>
            obtain ⟨j, hj, rfl, hbel', hup'⟩ := hrel
            have hs' := hbel'.size
            have hkw' : Kept w2 wr := kept_of_below hbel'
            have hbox' := hkw' _ _ hc2
            have hB' : Below w.heap.size w wr := hB.trans ((hbel2.mono (by omega)).trans (hbel'.mono (by omega)))
            by_cases hlt' : j < f.blocks.length
            · obtain ⟨b', o', kb, rfl, hkb, ⟨Ap, cp, hphi, hphis⟩, ⟨Ai, ci, hins, hinss⟩, ⟨hkd, -⟩, ⟨har, -⟩, ⟨At, ct, hto, htos⟩⟩ := (SBlks.keep (hk2.trans hkw') hblks).at_ hlt'
              have hpl := hphis.len
              have hil := hinss.len
              have htl := htos.len
              by_cases hok' : kb.ins.length ≤ 300 ∧ kb.phis.length ≤ 300 ∧ kb.term.to.length ≤ 70
              · obtain ⟨hp1, hp2, hp3⟩ := hok'
                go_wp2_with fail
                clear hphi hkd har hto
                obtain ⟨w3, hw3, hs3, hk3, hbel3, hc3, -⟩ := named wr #[.slice Ap kb.phis.length cp, .slice Ai kb.ins.length ci, .int .i64 kb.term.kind, .int .i64 kb.term.arg, .slice At kb.term.to.length ct] 63
                have hc30 := hc3 0 _ rfl
                have hc31 := hc3 1 _ rfl
                have hs3 : wr.heap.size < w3.heap.size := by omega
                have hB3 : Below w.heap.size w w3 := hB'.trans (hbel3.mono (by omega))
                rw [← hw3]
                clear hw3 hins hc3
                have hinss3 := SInss.keep hk3 hinss
                have hphis3 := SPhis.keep hk3 hphis
                clear hinss hphis
                go_loopw [7] (fun i wi => ∃ n q : Nat, n ≤ kb.ins.length ∧ i = .int .i64 n ∧ wi = w3.drewN q ∧ Upto (fun x : InsD => x.args.length ≤ 300) kb.ins n) (fun i _ => kb.ins.length - (intOf i).toNat)
                case atStart => exact ⟨0, 0, Nat.zero_le _, rfl, rfl, Upto.zero⟩
                case round =>
                  obtain ⟨n, q, hn, rfl, rfl, hup3⟩ := hrel
                  by_cases hlt3 : n < kb.ins.length
                  · obtain ⟨b3, o3, x, rfl, hx, -, -, ⟨Aa, ca, hag, hags⟩, -, -⟩ := hinss3.at_ hlt3
                    have hal := hags.len
                    by_cases hok3 : x.args.length ≤ 300
                    · go_wp2_with fail
                      go_roundw
                      case rel => exact ⟨n + 1, _, by omega, by go_num, rfl, hup3.succ hx.out hok3⟩
                      case measure => simp [intOf]; omega
                    · go_wp2_with fail
                      go_ret
                      exact Says.no (below_drewN hB3 _)
                  · go_wp2_with fail
                    have hi3 := hup3.all (by omega)
                    have HI3 := Lib.hid hi3
                    clear hi3 hup3
                    go_loopw [8] (fun i wi => ∃ n q : Nat, n ≤ kb.phis.length ∧ i = .int .i64 n ∧ wi = w3.drewN q ∧ Upto (fun x : PhiD => x.args.length ≤ 300) kb.phis n) (fun i _ => kb.phis.length - (intOf i).toNat)
                    case atStart => exact ⟨0, q, Nat.zero_le _, rfl, rfl, Upto.zero⟩
                    case round =>
                      obtain ⟨n', q', hn', rfl, rfl, hup4⟩ := hrel
                      by_cases hlt4 : n' < kb.phis.length
                      · obtain ⟨b4, o4, x, rfl, hx, -, ⟨Aa, ca, hag, hags⟩⟩ := hphis3.at_ hlt4
                        have hal := hags.len
                        by_cases hok3 : x.args.length ≤ 300
                        · go_wp2_with fail
                          go_roundw
                          case rel => exact ⟨n' + 1, _, by omega, by go_num, rfl, hup4.succ hx.out hok3⟩
                          case measure => simp [intOf]; omega
                        · go_wp2_with fail
                          go_ret
                          exact Says.no (below_drewN hB3 _)
                      · go_wp2_with fail
                        go_roundw
                        case rel => exact ⟨j + 1, by omega, by go_num, below_drewN ((hbel'.trans (hbel3.mono (by omega)))) _, hup'.succ hkb.out ⟨hp1, hp2, hp3, HI3.out, hup4.all (by omega)⟩⟩
                        case measure => simp [intOf]; omega
              · have hno : 300 < kb.ins.length ∨ 300 < kb.phis.length ∨ 70 < kb.term.to.length := by omega
                clear hok'
                by_cases hq1 : 300 < kb.ins.length
                · clear hno
                  go_wp2_with fail
                  all_goals (go_ret; exact Says.no (hB'.alloc (by omega) _))
                · by_cases hq2 : 300 < kb.phis.length
                  · clear hno
                    go_wp2_with fail
                    all_goals (go_ret; exact Says.no (hB'.alloc (by omega) _))
                  · have hq3 : 70 < kb.term.to.length := by omega
                    clear hno
                    go_wp2_with fail
                    all_goals (go_ret; exact Says.no (hB'.alloc (by omega) _))
            · go_wp2_with fail
              go_roundw
              case rel => exact ⟨k + 1, by omega, by go_num, hbel.trans ((hbel2.mono (by omega)).trans (hbel'.mono (by omega))), hup.succ hf.out ⟨ho1, ho2, ho3, hup'.all (by omega)⟩⟩
              case measure => simp [intOf]; omega
        · have hno : 70 < f.blocks.length ∨ 300 < f.regs.length ∨ 1000 < f.params := by omega
          clear hok
          by_cases hq1 : 70 < f.blocks.length
          · clear hno
            go_wp2_with fail
            all_goals (go_ret; exact Says.no (hB.alloc (by omega) _))
          · by_cases hq2 : 300 < f.regs.length
            · clear hno
              go_wp2_with fail
              all_goals (go_ret; exact Says.no (hB.alloc (by omega) _))
            · have hq3 : 1000 < f.params := by omega
              clear hno
              go_wp2_with fail
              all_goals (go_ret; exact Says.no (hB.alloc (by omega) _))
      · go_wp2_with fail
        go_ret
        exact ⟨⟨true, rfl, fun _ => ⟨by omega, hup.all (by omega)⟩⟩, hB⟩
end Go.Proofs.YtoidhjmhakajlaaGreatDoor

/- The reference's small functions of layer 2: is, worst, end. -/
namespace Go.Proofs.YtoidhjmhakajlaaGreatDoor
open Go.ChangeShapes Go.WideShapes Go.RowKit Go.Deep
set_option linter.unusedVariables false

/-- Is a register there, and of a type (below 0: of any)? -/
def isE (regs : List Int) (r t : Int) : Int := if 0 ≤ r ∧ r < regs.length then (if 0 ≤ t ∧ reg regs r ≠ t then 3 else 0) else 4
def worstE (a b : Int) : Int := if a = 4 ∨ b = 4 then 4 else if a ≠ 0 then a else b

theorem worst_any (a b : Int) (w : World) : Calls Tryz.prog 48 #[.int .i64 a, .int .i64 b] w fun e w' => e = .returned (.int .i64 (worstE a b)) ∧ w = w' := by
  by_cases h1 : a = 4
  · have HE : Hid (worstE a b = 4) := Lib.hid (if_pos (.inl h1))
    have h1' : (a == 4) = true := by simp [h1]
    clear h1
    go_enter Tryz.func48, Tryz.ntmps48
    go_wp2_with fail
    go_ret
    exact ⟨by rw [HE.out]; rfl, rfl⟩
  · have h1' : (a == 4) = false := by simp [h1]
    by_cases h2 : b = 4
    · have HE : Hid (worstE a b = 4) := Lib.hid (if_pos (.inr h2))
      have h2' : (b == 4) = true := by simp [h2]
      clear h1 h2
      go_enter Tryz.func48, Tryz.ntmps48
      go_wp2_with fail
      go_ret
      exact ⟨by rw [HE.out]; rfl, rfl⟩
    · have h2' : (b == 4) = false := by simp [h2]
      by_cases h3 : a = 0
      · have HE : Hid (worstE a b = b) := Lib.hid (by unfold worstE; rw [if_neg (by omega), if_neg (by omega)])
        have h3' : (a != 0) = false := by simp [h3]
        clear h1 h2 h3
        go_enter Tryz.func48, Tryz.ntmps48
        go_wp2_with fail
        go_ret
        exact ⟨by rw [HE.out]; rfl, rfl⟩
      · have HE : Hid (worstE a b = a) := Lib.hid (by unfold worstE; rw [if_neg (by omega), if_pos h3])
        have h3' : (a != 0) = true := by rw [bne_iff_ne]; exact h3
        clear h1 h2 h3
        go_enter Tryz.func48, Tryz.ntmps48
        go_wp2_with fail
        go_ret
        exact ⟨by rw [HE.out]; rfl, rfl⟩

set_option maxRecDepth 100000 in
set_option maxHeartbeats 1000000 in
theorem is_reg (f : FunD) (v : Value) (r t : Int) (w : World) (hv : VFun w v f) (ht : I64 t) :
    Calls Tryz.prog 47 #[v, .int .i64 r, .int .i64 t] w fun e w' => e = .returned (.int .i64 (isE f.regs r t)) ∧ Below w.heap.size w w' := by
  obtain ⟨Ar, cr, Ab, cb, rfl, hr, -, -, -⟩ := hv
  have hrl := hr.len
  have hB : Below w.heap.size w (w.alloc (.cells #[.int .i64 f.params, .int .i64 f.result, .slice Ar f.regs.length cr, .slice Ab f.blocks.length cb] 57)) := (Below.refl _ _).alloc (Nat.le_refl _) _
  by_cases h1 : r < 0
  · have HE : Hid (isE f.regs r t = 4) := Lib.hid (if_neg (by omega))
    have h1' : decide (r < 0) = true := by simpa using h1
    go_enter Tryz.func47, Tryz.ntmps47
    go_wp2_with fail
    go_ret
    exact ⟨by rw [HE.out]; rfl, hB⟩
  · have h1' : decide (r < 0) = false := by simpa using h1
    obtain ⟨k, rfl⟩ := Int.eq_ofNat_of_zero_le (Int.not_lt.1 h1)
    by_cases h2 : k < f.regs.length
    · have h2' : decide ((f.regs.length : Int) ≤ k) = false := by simp; omega
      have h2c : (k : Int) < f.regs.length := by omega
      obtain ⟨b, o, x, rfl, hx, hxc, -⟩ := hr.int h2
      have hrg : reg f.regs k = x := reg_of rfl hx.out
      have hblt := block_lt_of_cell hxc
      dsimp only at hblt
      by_cases h3 : 0 ≤ t
      · have h3' : decide (0 ≤ t) = true := by simpa using h3
        by_cases h4 : x = t
        · have HE : Hid (isE f.regs k t = 0) := Lib.hid (by unfold isE; rw [if_pos (by omega), if_neg (by rw [hrg]; exact fun h => h.2 h4)])
          have h4' : (x != t) = false := by simp [h4]
          clear h4 hrg h1
          go_enter Tryz.func47, Tryz.ntmps47
          go_wp2_with fail
          go_ret
          exact ⟨by rw [HE.out]; rfl, hB⟩
        · have HE : Hid (isE f.regs k t = 3) := Lib.hid (by unfold isE; rw [if_pos (by omega), if_pos (by rw [hrg]; exact ⟨h3, h4⟩)])
          have h4' : (x != t) = true := by rw [bne_iff_ne]; exact h4
          clear h4 hrg h1
          go_enter Tryz.func47, Tryz.ntmps47
          go_wp2_with fail
          go_ret
          exact ⟨by rw [HE.out]; rfl, hB⟩
      · have h3' : decide (0 ≤ t) = false := by simpa using h3
        have HE : Hid (isE f.regs k t = 0) := Lib.hid (by unfold isE; rw [if_pos (by omega), if_neg (fun h => h3 h.1)])
        clear hrg h1
        go_enter Tryz.func47, Tryz.ntmps47
        go_wp2_with fail
        go_ret
        exact ⟨by rw [HE.out]; rfl, hB⟩
    · have HE : Hid (isE f.regs k t = 4) := Lib.hid (if_neg (by omega))
      have h2' : decide ((f.regs.length : Int) ≤ k) = true := by simp; omega
      have h2c : (f.regs.length : Int) ≤ k := by omega
      go_enter Tryz.func47, Tryz.ntmps47
      go_wp2_with fail
      go_ret
      exact ⟨by rw [HE.out]; rfl, hB⟩

set_option maxRecDepth 100000 in
set_option maxHeartbeats 1000000 in
theorem end_ref (f : FunD) (t : TermD) (v u : Value) (w : World) (hv : VFun w v f) (hu : VTerm w u t) (hk : t.kind = 1 ∨ t.kind = 2 ∨ t.kind = 3) (hres : 0 ≤ f.result) :
    Calls Tryz.prog 50 #[v, u] w fun e w' => e = .returned (.int .i64 (termE f t)) ∧ Below w.heap.size w w' := by
  have hv0 := hv
  obtain ⟨Ar, cr, Ab, cb, rfl, hr, hb, hp64, hr64⟩ := hv
  obtain ⟨At, ct, rfl, hto, hk64, ha64⟩ := hu
  have hB : Below w.heap.size w ((w.alloc (.cells #[.int .i64 f.params, .int .i64 f.result, .slice Ar f.regs.length cr, .slice Ab f.blocks.length cb] 57)).alloc (.cells #[.int .i64 t.kind, .int .i64 t.arg, .slice At t.to.length ct] 61)) := ((Below.refl _ _).alloc (Nat.le_refl _) _).alloc (by simp) _
  by_cases h2 : t.kind = 2
  · have HE : Hid (isE f.regs t.arg 2 = termE f t) := Lib.hid (by
      unfold termE wantOf isE
      rw [if_pos h2, if_neg (show ¬ (2 : Int) = 0 by decide)]
      by_cases h : 0 ≤ t.arg ∧ t.arg < f.regs.length
      · rw [if_pos h, if_pos h]
        by_cases h' : reg f.regs t.arg = 2
        · rw [if_pos h', if_neg (fun x => x.2 h')]
        · rw [if_neg h', if_pos ⟨by decide, h'⟩]
      · rw [if_neg h, if_neg h])
    have h2' : (t.kind == 2) = true := by simp [h2]
    clear h2 hk
    go_enter Tryz.func50, Tryz.ntmps50
    go_wp2_with fail
    refine (is_reg f _ t.arg 2 _ (VFun.keep (kept_of_below hB) hv0) (by unfold I64; omega)).mono ?_
    rintro e w1 ⟨rfl, hb1⟩
    rw [HE.out]
    go_wp2_with fail
    go_ret
    exact ⟨rfl, hB.trans (hb1.mono hB.size)⟩
  · have h2' : (t.kind == 2) = false := by simp [h2]
    by_cases h3 : t.kind = 3
    · have h3' : (t.kind == 3) = true := by simp [h3]
      by_cases h0 : f.result = 0
      · have h0' : (f.result != 0) = false := by simp [h0]
        by_cases ha : t.arg = -1
        · have HE : Hid (termE f t = 0) := Lib.hid (by unfold termE wantOf; rw [if_neg h2, if_pos h3, if_pos h0, if_pos ha])
          have ha' : (t.arg != -1) = false := by simp [ha]
          clear h2 h3 h0 ha hk
          go_enter Tryz.func50, Tryz.ntmps50
          go_wp2_with fail
          go_ret
          exact ⟨by rw [HE.out]; rfl, hB⟩
        · have HE : Hid (termE f t = 3) := Lib.hid (by unfold termE wantOf; rw [if_neg h2, if_pos h3, if_pos h0, if_neg ha])
          have ha' : (t.arg != -1) = true := by rw [bne_iff_ne]; exact ha
          clear h2 h3 h0 ha hk
          go_enter Tryz.func50, Tryz.ntmps50
          go_wp2_with fail
          go_ret
          exact ⟨by rw [HE.out]; rfl, hB⟩
      · have h0' : (f.result != 0) = true := by rw [bne_iff_ne]; exact h0
        have HE : Hid (isE f.regs t.arg f.result = termE f t) := Lib.hid (by
          unfold termE wantOf isE
          rw [if_neg h2, if_pos h3, if_neg h0]
          by_cases h : 0 ≤ t.arg ∧ t.arg < f.regs.length
          · rw [if_pos h, if_pos h]
            by_cases h' : reg f.regs t.arg = f.result
            · rw [if_pos h', if_neg (fun x => x.2 h')]
            · rw [if_neg h', if_pos ⟨hres, h'⟩]
          · rw [if_neg h, if_neg h])
        clear h2 h3 h0 hk
        go_enter Tryz.func50, Tryz.ntmps50
        go_wp2_with fail
        refine (is_reg f _ t.arg f.result _ (VFun.keep (kept_of_below hB) hv0) hr64).mono ?_
        rintro e w1 ⟨rfl, hb1⟩
        rw [HE.out]
        go_wp2_with fail
        go_ret
        exact ⟨rfl, hB.trans (hb1.mono hB.size)⟩
    · have h3' : (t.kind == 3) = false := by simp [h3]
      by_cases ha : t.arg = -1
      · have HE : Hid (termE f t = 0) := Lib.hid (by unfold termE wantOf; rw [if_neg h2, if_neg h3, if_pos rfl, if_pos ha])
        have ha' : (t.arg != -1) = false := by simp [ha]
        clear h2 h3 ha hk
        go_enter Tryz.func50, Tryz.ntmps50
        go_wp2_with fail
        go_ret
        exact ⟨by rw [HE.out]; rfl, hB⟩
      · have HE : Hid (termE f t = 3) := Lib.hid (by unfold termE wantOf; rw [if_neg h2, if_neg h3, if_pos rfl, if_neg ha])
        have ha' : (t.arg != -1) = true := by rw [bne_iff_ne]; exact ha
        clear h2 h3 ha hk
        go_enter Tryz.func50, Tryz.ntmps50
        go_wp2_with fail
        go_ret
        exact ⟨by rw [HE.out]; rfl, hB⟩
end Go.Proofs.YtoidhjmhakajlaaGreatDoor
