/- What is written: lists, phis, instructions, ends, blocks, functions. -/
import Derived.Test.YtoidhjmhakajlaaGreatDoorZigJ
import Derived.Test.YtoidhjmhakajlaaGreatDoorOkMJ
namespace Go.Proofs.YtoidhjmhakajlaaGreatDoor
open Go.ChangeShapes Go.WideShapes Go.RowKit Go.Deep
set_option linter.unusedVariables false

/-- The bytes behind k elements of a list. -/
def upB {α : Type} (b : α → List UInt8) (xs : List UInt8) (l : List α) (k : Nat) : List UInt8 := xs ++ (numB l.length ++ (l.take k).flatMap b)
theorem upB_zero {α : Type} (b : α → List UInt8) (xs : List UInt8) (l : List α) : xs ++ intB (l.length : Int) = upB b xs l 0 := by rw [intB_nat]; simp [upB]
theorem upB_succ {α : Type} (b : α → List UInt8) (xs : List UInt8) {l : List α} {k : Nat} {x : α} (h : l[k]? = some x) : upB b xs l k ++ b x = upB b xs l (k + 1) := by
  unfold upB; rw [take_succ_of h]; simp
theorem upB_all {α : Type} (b : α → List UInt8) (xs : List UInt8) {l : List α} {k : Nat} (h : l.length ≤ k) : upB b xs l k = xs ++ (numB l.length ++ l.flatMap b) := by
  unfold upB; rw [List.take_of_length_le h]
theorem upB_len {α : Type} (b : α → List UInt8) (xs : List UInt8) (l : List α) (k : Nat) : (upB b xs l k).length ≤ (xs ++ (numB l.length ++ l.flatMap b)).length := by
  unfold upB
  simp only [List.length_append]
  have : ((l.take k).flatMap b).length + ((l.drop k).flatMap b).length = (l.flatMap b).length := by
    rw [← List.length_append, ← List.flatMap_append, List.take_append_drop]
  omega
set_option maxRecDepth 100000 in
set_option maxHeartbeats 1000000 in
theorem writeInts_any (w0 : World) (P : Nat) (w : World) (xs : List UInt8) (l : List Int) (A : Option Addr) (c : Nat) (hl : SL w0 1 RInt A c l) (hok : ∀ x ∈ l, okN x) (hw : Wri w0 P w xs) (hlen : (xs ++ intsB l).length ≤ 1099511627776) :
    Calls Tryz.prog 103 #[.pointer (some ⟨P, 0, none⟩), .slice A l.length c, .func (.func 77) #[.pointer (some ⟨P, 0, none⟩)] #[]] w (ToldW w0 P w (xs ++ intsB l)) := by
  have hll := hl.len
  have HOK := Lib.hid hok
  have hxl : xs.length ≤ 1099511627776 := by rw [List.length_append] at hlen; omega
  clear hok
  go_enter Tryz.func103, Tryz.ntmps103
  go_wp2_with fail
  refine (number_any w0 P w xs l.length ⟨by omega, by omega⟩ hw hxl).mono ?_
  rintro e w1 ⟨rfl, hw1, hs1⟩
  rw [upB_zero intB] at hw1
  go_wp2_with fail
  go_loopw [14] (fun i wr => ∃ k : Nat, k ≤ l.length ∧ i = .int .i64 k ∧ Wri w0 P wr (upB intB xs l k) ∧ WS P w wr) (fun i _ => l.length - (intOf i).toNat)
  case atStart => exact ⟨0, Nat.zero_le _, rfl, hw1, hs1⟩
  case round =>
    obtain ⟨k, hk, rfl, hwr, hsr⟩ := hrel
    by_cases hlt : k < l.length
    · obtain ⟨b, o, x, rfl, hx, hcx, -⟩ := (SInts.keep hwr.keep hl).int hlt
      have hox := HOK.out x (List.mem_of_getElem? hx.out)
      have h1 := hox.1
      have h2 := hox.2
      have hul := Nat.le_trans (upB_len intB xs l k) hlen
      have HU := Lib.hid hul
      clear hul hox
      go_wp2_with fail
      refine (number_any w0 P wr _ x ⟨h1, by omega⟩ hwr HU.out).mono ?_
      rintro e w2 ⟨rfl, hw2, hs2⟩
      rw [upB_succ intB xs hx.out] at hw2
      go_wp2_with fail
      go_roundw
      case rel => exact ⟨k + 1, by omega, by go_num, hw2, hsr.trans hs2⟩
      case measure => simp [intOf]; omega
    · have e := upB_all intB xs (l := l) (k := k) (by omega)
      rw [e] at hwr
      go_wp2_with fail
      go_end0
      exact ⟨rfl, hwr, hsr⟩

set_option maxRecDepth 100000 in
set_option maxHeartbeats 1000000 in
theorem numbers_any (w0 : World) (P : Nat) (w : World) (xs : List UInt8) (l : List Int) (A : Option Addr) (c : Nat) (hl : SL w0 1 RInt A c l) (hok : ∀ x ∈ l, okN x) (hw : Wri w0 P w xs) (hlen : (xs ++ intsB l).length ≤ 1099511627776) :
    Calls Tryz.prog 78 #[.pointer (some ⟨P, 0, none⟩), .slice A l.length c] w (ToldW w0 P w (xs ++ intsB l)) := by
  go_enter Tryz.func78, Tryz.ntmps78
  go_wp2_with fail
  refine (writeInts_any w0 P _ xs l A c hl hok hw hlen).mono ?_
  rintro e w1 ⟨rfl, h1, h2⟩
  go_wp2_with fail
  go_end0
  exact ⟨rfl, h1, h2⟩

set_option maxRecDepth 100000 in
set_option maxHeartbeats 1000000 in
theorem phi_any (w0 : World) (P : Nat) (w : World) (xs : List UInt8) (p : PhiD) (v : Value) (hv : VPhi w0 v p) (hok : okPhi p) (hw : Wri w0 P w xs) (hlen : (xs ++ phiB p).length ≤ 1099511627776) :
    Calls Tryz.prog 105 #[.pointer (some ⟨P, 0, none⟩), v] w (ToldW w0 P w (xs ++ phiB p)) := by
  obtain ⟨A, c, rfl, hs, -⟩ := hv
  obtain ⟨⟨h1, h2⟩, h3⟩ := hok
  have e : xs ++ phiB p = xs ++ intB p.dst ++ intsB p.args := by unfold phiB; simp only [List.append_assoc]
  rw [e] at hlen ⊢
  simp only [List.length_append] at hlen
  have HL := Lib.hid hlen
  clear e hlen
  go_enter Tryz.func105, Tryz.ntmps105
  go_wp2_with fail
  obtain ⟨w1, hw1⟩ : ∃ w1, w1 = w.alloc (.cells #[.int .i64 p.dst, .slice A p.args.length c] 67) := ⟨_, rfl⟩
  obtain ⟨hW1, hS1, ha1, hb1⟩ := hw.alloc (.cells #[.int .i64 p.dst, .slice A p.args.length c] 67)
  rw [← hw1] at hW1 hS1 ha1 hb1 ⊢
  clear hw1 hw
  refine (number_any w0 P _ _ p.dst ⟨h1, by omega⟩ hW1 (by have := HL.out; first | omega | (simp only [List.length_append]; omega))).mono ?_
  rintro e w2 ⟨rfl, hW2, hs2⟩
  obtain ⟨ha2, hb2⟩ := hs2.keep ha1 hb1
  have hS2 := hS1.trans hs2
  clear hs2 ha1 hb1
  have c2_1 := cell_of_block hb2 1
  go_wp2_with fail
  clear c2_1
  refine (numbers_any w0 P _ _ p.args A c hs h3.2 hW2 (by have := HL.out; first | omega | (simp only [List.length_append]; omega))).mono ?_
  rintro e w3 ⟨rfl, hW3, hs3⟩
  obtain ⟨ha3, hb3⟩ := hs3.keep ha2 hb2
  have hS3 := hS2.trans hs3
  clear hs3 ha2 hb2
  go_wp2_with fail
  go_end0
  exact ⟨rfl, hW3, hS3⟩

set_option maxRecDepth 100000 in
set_option maxHeartbeats 1000000 in
theorem term_any (w0 : World) (P : Nat) (w : World) (xs : List UInt8) (p : TermD) (v : Value) (hv : VTerm w0 v p) (hok : okTerm p) (hw : Wri w0 P w xs) (hlen : (xs ++ termB p).length ≤ 1099511627776) :
    Calls Tryz.prog 108 #[.pointer (some ⟨P, 0, none⟩), v] w (ToldW w0 P w (xs ++ termB p)) := by
  obtain ⟨A, c, rfl, hs, -, -⟩ := hv
  obtain ⟨⟨h1, h2⟩, ⟨h3, h4⟩, h5⟩ := hok
  have e : xs ++ termB p = xs ++ intB p.kind ++ intB (p.arg + 1) ++ intsB p.to := by unfold termB; simp only [List.append_assoc]
  rw [e] at hlen ⊢
  simp only [List.length_append] at hlen
  have HL := Lib.hid hlen
  clear e hlen
  have h6 : -1 ≤ p.arg := by omega
  have h7 : p.arg ≤ 2147483648 := by omega
  go_enter Tryz.func108, Tryz.ntmps108
  go_wp2_with fail
  obtain ⟨w1, hw1⟩ : ∃ w1, w1 = w.alloc (.cells #[.int .i64 p.kind, .int .i64 p.arg, .slice A p.to.length c] 61) := ⟨_, rfl⟩
  obtain ⟨hW1, hS1, ha1, hb1⟩ := hw.alloc (.cells #[.int .i64 p.kind, .int .i64 p.arg, .slice A p.to.length c] 61)
  rw [← hw1] at hW1 hS1 ha1 hb1 ⊢
  clear hw1 hw
  refine (number_any w0 P _ _ p.kind ⟨h1, by omega⟩ hW1 (by have := HL.out; first | omega | (simp only [List.length_append]; omega))).mono ?_
  rintro e w2 ⟨rfl, hW2, hs2⟩
  obtain ⟨ha2, hb2⟩ := hs2.keep ha1 hb1
  have hS2 := hS1.trans hs2
  clear hs2 ha1 hb1
  have c2_1 := cell_of_block hb2 1
  go_wp2_with fail
  clear c2_1
  refine (number_any w0 P _ _ (p.arg + 1) ⟨h3, by omega⟩ hW2 (by have := HL.out; first | omega | (simp only [List.length_append]; omega))).mono ?_
  rintro e w3 ⟨rfl, hW3, hs3⟩
  obtain ⟨ha3, hb3⟩ := hs3.keep ha2 hb2
  have hS3 := hS2.trans hs3
  clear hs3 ha2 hb2
  have c3_2 := cell_of_block hb3 2
  go_wp2_with fail
  clear c3_2
  refine (numbers_any w0 P _ _ p.to A c hs h5.2 hW3 (by have := HL.out; first | omega | (simp only [List.length_append]; omega))).mono ?_
  rintro e w4 ⟨rfl, hW4, hs4⟩
  obtain ⟨ha4, hb4⟩ := hs4.keep ha3 hb3
  have hS4 := hS3.trans hs4
  clear hs4 ha3 hb3
  go_wp2_with fail
  go_end0
  exact ⟨rfl, hW4, hS4⟩

set_option maxRecDepth 100000 in
set_option maxHeartbeats 1000000 in
theorem writePhis_any (w0 : World) (P : Nat) (w : World) (xs : List UInt8) (l : List PhiD) (A : Option Addr) (c : Nat) (hl : SL w0 2 RPhi A c l) (hok : ∀ x ∈ l, okPhi x) (hw : Wri w0 P w xs) (hlen : (xs ++ phisB l).length ≤ 1099511627776) :
    Calls Tryz.prog 104 #[.pointer (some ⟨P, 0, none⟩), .slice A l.length c, .func (.func 105) #[.pointer (some ⟨P, 0, none⟩)] #[]] w (ToldW w0 P w (xs ++ phisB l)) := by
  have hll := hl.len
  have HOK := Lib.hid hok
  have hxl : xs.length ≤ 1099511627776 := by rw [List.length_append] at hlen; omega
  clear hok
  go_enter Tryz.func104, Tryz.ntmps104
  go_wp2_with fail
  refine (number_any w0 P w xs l.length ⟨by omega, by omega⟩ hw hxl).mono ?_
  rintro e w1 ⟨rfl, hw1, hs1⟩
  rw [upB_zero phiB] at hw1
  go_wp2_with fail
  go_loopw [14] (fun i wr => ∃ k : Nat, k ≤ l.length ∧ i = .int .i64 k ∧ Wri w0 P wr (upB phiB xs l k) ∧ WS P w wr) (fun i _ => l.length - (intOf i).toNat)
  case atStart => exact ⟨0, Nat.zero_le _, rfl, hw1, hs1⟩
  case round =>
    obtain ⟨k, hk, rfl, hwr, hsr⟩ := hrel
    by_cases hlt : k < l.length
    · obtain ⟨b, o, x, rfl, hx, hR⟩ := hl.at_ hlt
      obtain ⟨⟨q0, y0⟩, Ap, cp, q1, y1⟩ := hR
      have hkp := hwr.keep
      have q0 := hkp _ _ q0
      have q1 := hkp _ _ q1
      have hox := HOK.out x (List.mem_of_getElem? hx.out)
      have hul := Nat.le_trans (Nat.le_trans (Nat.le_of_eq (congrArg List.length (upB_succ phiB xs hx.out))) (upB_len phiB xs l (k + 1))) hlen
      have HU := Lib.hid hul
      clear hul hkp
      go_wp2_with fail
      obtain ⟨wa, hwa⟩ : ∃ wa, wa = wr.alloc (.cells #[.int .i64 x.dst, .slice Ap x.args.length cp] 67) := ⟨_, rfl⟩
      obtain ⟨hWa, hSa, -, -⟩ := hwr.alloc (.cells #[.int .i64 x.dst, .slice Ap x.args.length cp] 67)
      rw [← hwa] at hWa hSa ⊢
      clear hwa
      refine (phi_any w0 P wa _ x _ ⟨Ap, cp, rfl, y1, y0⟩ hox hWa HU.out).mono ?_
      rintro e w2 ⟨rfl, hw2, hs2⟩
      rw [upB_succ phiB xs hx.out] at hw2
      go_wp2_with fail
      go_roundw
      case rel => exact ⟨k + 1, by omega, by go_num, hw2, (hsr.trans hSa).trans hs2⟩
      case measure => simp [intOf]; omega
    · have e := upB_all phiB xs (l := l) (k := k) (by omega)
      rw [e] at hwr
      go_wp2_with fail
      go_end0
      exact ⟨rfl, hwr, hsr⟩

set_option maxRecDepth 100000 in
set_option maxHeartbeats 2000000 in
theorem ins_any (w0 : World) (P : Nat) (w : World) (xs : List UInt8) (p : InsD) (v : Value) (hv : VIns w0 v p) (hok : okIns p) (hw : Wri w0 P w xs) (hlen : (xs ++ insB p).length ≤ 1099511627776) :
    Calls Tryz.prog 107 #[.pointer (some ⟨P, 0, none⟩), v] w (ToldW w0 P w (xs ++ insB p)) := by
  obtain ⟨A, c, rfl, hs, -, -, hi1, -⟩ := hv
  obtain ⟨⟨h1, h2⟩, ⟨h3, h4⟩, h5, hi2, ⟨h8, h9⟩⟩ := hok
  have e : xs ++ insB p = xs ++ intB p.op ++ intB (p.dst + 1) ++ intsB p.args ++ numB (zig p.imm) ++ intB p.fn := by unfold insB; simp only [List.append_assoc]
  rw [e] at hlen ⊢
  simp only [List.length_append] at hlen
  have HL := Lib.hid hlen
  clear e hlen
  have h6 : -1 ≤ p.dst := by omega
  have h7 : p.dst ≤ 2147483648 := by omega
  have HZ := Lib.hid (zig_lt hi1)
  go_enter Tryz.func107, Tryz.ntmps107
  go_wp2_with fail
  obtain ⟨w1, hw1⟩ : ∃ w1, w1 = w.alloc (.cells #[.int .i64 p.op, .int .i64 p.dst, .slice A p.args.length c, .int .i64 p.imm, .int .i64 p.fn] 65) := ⟨_, rfl⟩
  obtain ⟨hW1, hS1, ha1, hb1⟩ := hw.alloc (.cells #[.int .i64 p.op, .int .i64 p.dst, .slice A p.args.length c, .int .i64 p.imm, .int .i64 p.fn] 65)
  rw [← hw1] at hW1 hS1 ha1 hb1 ⊢
  clear hw1 hw
  refine (number_any w0 P _ _ p.op ⟨h1, by omega⟩ hW1 (by have := HL.out; first | omega | (simp only [List.length_append]; omega))).mono ?_
  rintro e w2 ⟨rfl, hW2, hs2⟩
  obtain ⟨ha2, hb2⟩ := hs2.keep ha1 hb1
  have hS2 := hS1.trans hs2
  clear hs2 ha1 hb1
  have c2_1 := cell_of_block hb2 1
  go_wp2_with fail
  clear c2_1
  refine (number_any w0 P _ _ (p.dst + 1) ⟨h3, by omega⟩ hW2 (by have := HL.out; first | omega | (simp only [List.length_append]; omega))).mono ?_
  rintro e w3 ⟨rfl, hW3, hs3⟩
  obtain ⟨ha3, hb3⟩ := hs3.keep ha2 hb2
  have hS3 := hS2.trans hs3
  clear hs3 ha2 hb2
  have c3_2 := cell_of_block hb3 2
  go_wp2_with fail
  clear c3_2
  refine (numbers_any w0 P _ _ p.args A c hs h5.2 hW3 (by have := HL.out; first | omega | (simp only [List.length_append]; omega))).mono ?_
  rintro e w4 ⟨rfl, hW4, hs4⟩
  obtain ⟨ha4, hb4⟩ := hs4.keep ha3 hb3
  have hS4 := hS3.trans hs4
  clear hs4 ha3 hb3
  obtain ⟨hB4, hP, v, hc4, ho4, hv4⟩ := hW4
  have hp4 := cell_of_block hc4 0
  have hi4 := cell_of_block hb4 3
  generalize hys : xs ++ intB p.op ++ intB (p.dst + 1) ++ intsB p.args = ys at *
  have HWN := Lib.hid (withNumber_any w0.heap.size (zig p.imm) v ys w4.drew HZ.out ho4 hB4.size (by have := HL.out; rw [← hys]; simp only [List.length_append]; omega))
  have HU := Lib.hid (fun W => unsigned_any p.imm W hi1)
  go_wp2_with fail
  refine wp_region_last (L := 11) (S := fun w' => w'.cell? ⟨P, 0, none⟩ = some v ∧ w'.cell? ⟨w.heap.size, 3, none⟩ = some (.int .i64 p.imm)) (by kernel_rfl) (by rfl) (by kernel_rfl) (by kernel_rfl) ?_
  change wpAnyH _ _ _ _ _ _ _ _ (World.drew _)
  have hS0 : w4.drew.cell? ⟨P, 0, none⟩ = some v ∧ w4.drew.cell? ⟨w.heap.size, 3, none⟩ = some (.int .i64 p.imm) := ⟨hp4, hi4⟩
  refine takeH (i := 0) (some 17) (v := ?_) rfl (by kernel_rfl) (by kernel_rfl) (by kernel_rfl) (fun _ _ _ h => h) hS0 (fun o ho => ?_) ?_
  rotate_left
  · simp only [List.getElem?_toArray, List.getElem?_cons_zero, Option.some.injEq] at ho; subst ho; refine Or.inl ⟨by rfl, fun w' hSw => ?_⟩; (try dsimp only at hSw); go_simp; try with_reducible rfl
  simp only [Act.put, List.setIfInBounds_toArray, List.set_cons_zero, List.set_cons_succ]
  refine takeH (i := 1) (some 18) (v := ?_) rfl (by kernel_rfl) (by kernel_rfl) (by kernel_rfl) (fun _ _ _ h => h) hS0 (fun o ho => ?_) ?_
  rotate_left
  · simp only [List.getElem?_toArray, List.getElem?_cons_zero, List.getElem?_cons_succ, Option.some.injEq] at ho; subst ho; refine Or.inl ⟨by rfl, fun w' hSw => ?_⟩; (try dsimp only at hSw); go_simp; try with_reducible rfl
  simp only [Act.put, List.setIfInBounds_toArray, List.set_cons_zero, List.set_cons_succ]
  refine takeH (i := 2) (some 19) (v := ?_) rfl (by kernel_rfl) (by kernel_rfl) (by kernel_rfl) (fun _ _ _ h => h) hS0 (fun o ho => ?_) ?_
  rotate_left
  · simp only [List.getElem?_toArray, List.getElem?_cons_zero, List.getElem?_cons_succ, Option.some.injEq] at ho; subst ho; refine Or.inl ⟨by rfl, fun w' hSw => ?_⟩; (try dsimp only at hSw); go_simp; try with_reducible rfl
  simp only [Act.put, List.setIfInBounds_toArray, List.set_cons_zero, List.set_cons_succ]
  refine takeH (i := 3) (some 20) (v := ?_) rfl (by kernel_rfl) (by kernel_rfl) (by kernel_rfl) (fun _ _ _ h => h) hS0 (fun o ho => ?_) ?_
  rotate_left
  · simp only [List.getElem?_toArray, List.getElem?_cons_zero, List.getElem?_cons_succ, Option.some.injEq] at ho; subst ho; refine Or.inl ⟨by rfl, fun w' hSw => ?_⟩; (try dsimp only at hSw); go_simp; try with_reducible rfl
  simp only [Act.put, List.setIfInBounds_toArray, List.set_cons_zero, List.set_cons_succ]
  refine takeH (i := 4) (some 21) (v := ?_) rfl (by kernel_rfl) (by kernel_rfl) (by kernel_rfl) (fun _ _ _ h => h) hS0 (fun o ho => ?_) ?_
  rotate_left
  · simp only [List.getElem?_toArray, List.getElem?_cons_zero, List.getElem?_cons_succ, Option.some.injEq] at ho; subst ho; refine Or.inl ⟨by rfl, fun w' hSw => ?_⟩; (try dsimp only at hSw); go_simp; try with_reducible rfl
  simp only [Act.put, List.setIfInBounds_toArray, List.set_cons_zero, List.set_cons_succ]
  refine takeH (i := 5) (some 22) (v := ?_) rfl (by kernel_rfl) (by kernel_rfl) (by kernel_rfl) (fun _ _ _ h => h) hS0 (fun o ho => ?_) ?_
  rotate_left
  · simp only [List.getElem?_toArray, List.getElem?_cons_zero, List.getElem?_cons_succ, Option.some.injEq] at ho; subst ho; refine Or.inl ⟨by rfl, fun w' hSw => ?_⟩; (try dsimp only at hSw); go_simp; try with_reducible rfl
  simp only [Act.put, List.setIfInBounds_toArray, List.set_cons_zero, List.set_cons_succ]
  refine takeH (i := 6) (some 23) (v := ?_) rfl (by kernel_rfl) (by kernel_rfl) (by kernel_rfl) (fun _ _ _ h => h) hS0 (fun o ho => ?_) ?_
  rotate_left
  · simp only [List.getElem?_toArray, List.getElem?_cons_zero, List.getElem?_cons_succ, Option.some.injEq] at ho; subst ho; refine Or.inl ⟨by rfl, fun w' hSw => ?_⟩; (try dsimp only at hSw); go_simp; try with_reducible rfl
  simp only [Act.put, List.setIfInBounds_toArray, List.set_cons_zero, List.set_cons_succ]
  refine oneH (i := 7) (by kernel_rfl) (fun o ho K hK => ?_)
  simp only [List.getElem?_toArray, List.getElem?_cons_zero, List.getElem?_cons_succ, Option.some.injEq] at ho; subst ho
  go_simp
  refine (HU.out _).mono ?_
  rintro e wu ⟨rfl, rfl⟩
  go_wp2_with fail
  refine hK.out _ _ hS0 ?_
  clear hK K
  refine oneH (i := 8) (by kernel_rfl) (fun o ho K hK => ?_)
  simp only [List.getElem?_toArray, List.getElem?_cons_zero, List.getElem?_cons_succ, Option.some.injEq] at ho; subst ho
  go_simp
  generalize hzs : ys ++ numB (zig p.imm) = zs at *
  refine HWN.out.mono ?_
  rintro e w5 ⟨g, cap, rfl, ho5, hg5⟩
  obtain ⟨hc5, hW5, hs5⟩ := wri_done (w := w4.drew) hB4.drew hP hc4 (fun k hk => (ho4.lt k hk).1) hv4 ho5 hg5
  obtain ⟨ha6, hb6⟩ := hs5.keep (k := w.heap.size) (o := .cells #[.int .i64 p.op, .int .i64 p.dst, .slice A p.args.length c, .int .i64 p.imm, .int .i64 p.fn] 65) ha4 hb4
  have hS6 := (hS4.drew).trans hs5
  have hb5 : w5.heap[w.heap.size]? = some (.cells #[.int .i64 p.op, .int .i64 p.dst, .slice A p.args.length c, .int .i64 p.imm, .int .i64 p.fn] 65 (0, 0)) := (hg5.block _ ha4.1 (ha4.2.2 v hc4)).trans hb4
  have hp5 := cell_of_block hc5 0
  have hi5 := cell_of_block hb5 3
  have hSC : w5.cell? ⟨P, 0, none⟩ = some v ∧ w5.cell? ⟨w.heap.size, 3, none⟩ = some (.int .i64 p.imm) := ⟨hp5, hi5⟩
  have HB6 := Lib.hid hb6
  clear hb6 hb5 hp4 hi4 hp5 hi5
  go_wp2_with fail
  refine hK.out _ _ hSC ?_
  clear hK K
  refine takeH (i := 9) (some 26) (v := ?_) rfl (by kernel_rfl) (by kernel_rfl) (by kernel_rfl) (fun _ _ _ h => h) hSC (fun o ho => ?_) ?_
  rotate_left
  · simp only [List.getElem?_toArray, List.getElem?_cons_zero, List.getElem?_cons_succ, Option.some.injEq] at ho; subst ho; refine Or.inl ⟨by rfl, fun w' hSw => ?_⟩; (try dsimp only at hSw); go_simp; try with_reducible rfl
  simp only [Act.put, List.setIfInBounds_toArray, List.set_cons_zero, List.set_cons_succ]
  refine takeH (i := 10) (some 27) (v := ?_) rfl (by kernel_rfl) (by kernel_rfl) (by kernel_rfl) (fun _ _ _ h => h) hSC (fun o ho => ?_) ?_
  rotate_left
  · simp only [List.getElem?_toArray, List.getElem?_cons_zero, List.getElem?_cons_succ, Option.some.injEq] at ho; subst ho; refine Or.inl ⟨by rfl, fun w' hSw => ?_⟩; (try dsimp only at hSw); go_simp; try with_reducible rfl
  simp only [Act.put, List.setIfInBounds_toArray, List.set_cons_zero, List.set_cons_succ]
  refine wpAnyH_done (by kernel_rfl) ?_ _
  refine lastH (by decide) (fun o ho K hK => ?_)
  simp only [List.getElem?_toArray, List.getElem?_cons_zero, List.getElem?_cons_succ, Option.some.injEq] at ho; subst ho
  have x0 : w5.cell? ⟨P, 0, none⟩ = some v := hSC.1
  have xf : w5.frozen? ⟨P, 0, none⟩ = false := free_of_block hc5 0
  go_simp
  refine hK.out _ _ ?_
  clear hK K
  generalize w5.setCell ⟨P, 0, none⟩ (.slice (some ⟨g, 0, none⟩) zs.length cap) = w6 at *
  have hb6 := HB6.out
  have c6_4 := cell_of_block hb6 4
  clear hSC x0 xf hS0
  go_wp2_with fail
  refine (number_any w0 P _ _ p.fn ⟨h8, by omega⟩ hW5 (by have := HL.out; rw [← hzs, ← hys]; simp only [List.length_append]; omega)).mono ?_
  rintro e w7 ⟨rfl, hW7, hs7⟩
  go_wp2_with fail
  go_end0
  exact ⟨rfl, hW7, hS6.trans hs7⟩

set_option maxRecDepth 100000 in
set_option maxHeartbeats 1000000 in
theorem writeInss_any (w0 : World) (P : Nat) (w : World) (xs : List UInt8) (l : List InsD) (A : Option Addr) (c : Nat) (hl : SL w0 5 RIns A c l) (hok : ∀ x ∈ l, okIns x) (hw : Wri w0 P w xs) (hlen : (xs ++ inssB l).length ≤ 1099511627776) :
    Calls Tryz.prog 106 #[.pointer (some ⟨P, 0, none⟩), .slice A l.length c, .func (.func 107) #[.pointer (some ⟨P, 0, none⟩)] #[]] w (ToldW w0 P w (xs ++ inssB l)) := by
  have hll := hl.len
  have HOK := Lib.hid hok
  have hxl : xs.length ≤ 1099511627776 := by rw [List.length_append] at hlen; omega
  clear hok
  go_enter Tryz.func106, Tryz.ntmps106
  go_wp2_with fail
  refine (number_any w0 P w xs l.length ⟨by omega, by omega⟩ hw hxl).mono ?_
  rintro e w1 ⟨rfl, hw1, hs1⟩
  rw [upB_zero insB] at hw1
  go_wp2_with fail
  go_loopw [14] (fun i wr => ∃ k : Nat, k ≤ l.length ∧ i = .int .i64 k ∧ Wri w0 P wr (upB insB xs l k) ∧ WS P w wr) (fun i _ => l.length - (intOf i).toNat)
  case atStart => exact ⟨0, Nat.zero_le _, rfl, hw1, hs1⟩
  case round =>
    obtain ⟨k, hk, rfl, hwr, hsr⟩ := hrel
    by_cases hlt : k < l.length
    · obtain ⟨b, o, x, rfl, hx, hR⟩ := hl.at_ hlt
      obtain ⟨⟨q0, y0⟩, ⟨q1, y1⟩, ⟨Ap, cp, q2, y2⟩, ⟨q3, y3⟩, ⟨q4, y4⟩⟩ := hR
      have hkp := hwr.keep
      have q0 := hkp _ _ q0
      have q1 := hkp _ _ q1
      have q2 := hkp _ _ q2
      have q3 := hkp _ _ q3
      have q4 := hkp _ _ q4
      have hox := HOK.out x (List.mem_of_getElem? hx.out)
      have hul := Nat.le_trans (Nat.le_trans (Nat.le_of_eq (congrArg List.length (upB_succ insB xs hx.out))) (upB_len insB xs l (k + 1))) hlen
      have HU := Lib.hid hul
      clear hul hkp
      go_wp2_with fail
      obtain ⟨wa, hwa⟩ : ∃ wa, wa = wr.alloc (.cells #[.int .i64 x.op, .int .i64 x.dst, .slice Ap x.args.length cp, .int .i64 x.imm, .int .i64 x.fn] 65) := ⟨_, rfl⟩
      obtain ⟨hWa, hSa, -, -⟩ := hwr.alloc (.cells #[.int .i64 x.op, .int .i64 x.dst, .slice Ap x.args.length cp, .int .i64 x.imm, .int .i64 x.fn] 65)
      rw [← hwa] at hWa hSa ⊢
      clear hwa
      refine (ins_any w0 P wa _ x _ ⟨Ap, cp, rfl, y2, y0, y1, y3, y4⟩ hox hWa HU.out).mono ?_
      rintro e w2 ⟨rfl, hw2, hs2⟩
      rw [upB_succ insB xs hx.out] at hw2
      go_wp2_with fail
      go_roundw
      case rel => exact ⟨k + 1, by omega, by go_num, hw2, (hsr.trans hSa).trans hs2⟩
      case measure => simp [intOf]; omega
    · have e := upB_all insB xs (l := l) (k := k) (by omega)
      rw [e] at hwr
      go_wp2_with fail
      go_end0
      exact ⟨rfl, hwr, hsr⟩

set_option maxRecDepth 100000 in
set_option maxHeartbeats 1000000 in
theorem block_any (w0 : World) (P : Nat) (w : World) (xs : List UInt8) (p : BlkD) (v : Value) (hv : VBlk w0 v p) (hok : okBlk p) (hw : Wri w0 P w xs) (hlen : (xs ++ blkB p).length ≤ 1099511627776) :
    Calls Tryz.prog 80 #[.pointer (some ⟨P, 0, none⟩), v] w (ToldW w0 P w (xs ++ blkB p)) := by
  obtain ⟨Ap, cp, Ai, ci, At, ct, rfl, hp, hi, ht, hk64, ha64⟩ := hv
  obtain ⟨h1, h2, h3⟩ := hok
  have e : xs ++ blkB p = xs ++ phisB p.phis ++ inssB p.ins ++ termB p.term := by unfold blkB; simp only [List.append_assoc]
  rw [e] at hlen ⊢
  simp only [List.length_append] at hlen
  have HL := Lib.hid hlen
  clear e hlen
  go_enter Tryz.func80, Tryz.ntmps80
  go_wp2_with fail
  obtain ⟨w1, hw1⟩ : ∃ w1, w1 = w.alloc (.cells #[.slice Ap p.phis.length cp, .slice Ai p.ins.length ci, .int .i64 p.term.kind, .int .i64 p.term.arg, .slice At p.term.to.length ct] 63) := ⟨_, rfl⟩
  obtain ⟨hW1, hS1, ha1, hb1⟩ := hw.alloc (.cells #[.slice Ap p.phis.length cp, .slice Ai p.ins.length ci, .int .i64 p.term.kind, .int .i64 p.term.arg, .slice At p.term.to.length ct] 63)
  rw [← hw1] at hW1 hS1 ha1 hb1 ⊢
  clear hw1 hw
  refine (writePhis_any w0 P _ _ p.phis Ap cp hp h1.2 hW1 (by have := HL.out; first | omega | (simp only [List.length_append]; omega))).mono ?_
  rintro e w2 ⟨rfl, hW2, hs2⟩
  obtain ⟨ha2, hb2⟩ := hs2.keep ha1 hb1
  have hS2 := hS1.trans hs2
  clear hs2 ha1 hb1
  have c2_1 := cell_of_block hb2 1
  go_wp2_with fail
  clear c2_1
  refine (writeInss_any w0 P _ _ p.ins Ai ci hi h2.2 hW2 (by have := HL.out; first | omega | (simp only [List.length_append]; omega))).mono ?_
  rintro e w3 ⟨rfl, hW3, hs3⟩
  obtain ⟨ha3, hb3⟩ := hs3.keep ha2 hb2
  have hS3 := hS2.trans hs3
  clear hs3 ha2 hb2
  have c3_2 := cell_of_block hb3 2
  have c3_3 := cell_of_block hb3 3
  have c3_4 := cell_of_block hb3 4
  go_wp2_with fail
  clear c3_2
  clear c3_3
  clear c3_4
  refine (term_any w0 P _ _ p.term _ ⟨At, ct, rfl, ht, hk64, ha64⟩ h3 hW3 (by have := HL.out; first | omega | (simp only [List.length_append]; omega))).mono ?_
  rintro e w4 ⟨rfl, hW4, hs4⟩
  obtain ⟨ha4, hb4⟩ := hs4.keep ha3 hb3
  have hS4 := hS3.trans hs4
  clear hs4 ha3 hb3
  go_wp2_with fail
  go_end0
  exact ⟨rfl, hW4, hS4⟩

set_option maxRecDepth 100000 in
set_option maxHeartbeats 1000000 in
theorem writeBlks_any (w0 : World) (P : Nat) (w : World) (xs : List UInt8) (l : List BlkD) (A : Option Addr) (c : Nat) (hl : SL w0 5 RBlk A c l) (hok : ∀ x ∈ l, okBlk x) (hw : Wri w0 P w xs) (hlen : (xs ++ blksB l).length ≤ 1099511627776) :
    Calls Tryz.prog 79 #[.pointer (some ⟨P, 0, none⟩), .slice A l.length c, .func (.func 80) #[.pointer (some ⟨P, 0, none⟩)] #[]] w (ToldW w0 P w (xs ++ blksB l)) := by
  have hll := hl.len
  have HOK := Lib.hid hok
  have hxl : xs.length ≤ 1099511627776 := by rw [List.length_append] at hlen; omega
  clear hok
  go_enter Tryz.func79, Tryz.ntmps79
  go_wp2_with fail
  refine (number_any w0 P w xs l.length ⟨by omega, by omega⟩ hw hxl).mono ?_
  rintro e w1 ⟨rfl, hw1, hs1⟩
  rw [upB_zero blkB] at hw1
  go_wp2_with fail
  go_loopw [14] (fun i wr => ∃ k : Nat, k ≤ l.length ∧ i = .int .i64 k ∧ Wri w0 P wr (upB blkB xs l k) ∧ WS P w wr) (fun i _ => l.length - (intOf i).toNat)
  case atStart => exact ⟨0, Nat.zero_le _, rfl, hw1, hs1⟩
  case round =>
    obtain ⟨k, hk, rfl, hwr, hsr⟩ := hrel
    by_cases hlt : k < l.length
    · obtain ⟨b, o, x, rfl, hx, hR⟩ := hl.at_ hlt
      obtain ⟨⟨Ap, cp, q0, y0⟩, ⟨Ai, ci, q1, y1⟩, ⟨q2, y2⟩, ⟨q3, y3⟩, ⟨At, ct, q4, y4⟩⟩ := hR
      have hkp := hwr.keep
      have q0 := hkp _ _ q0
      have q1 := hkp _ _ q1
      have q2 := hkp _ _ q2
      have q3 := hkp _ _ q3
      have q4 := hkp _ _ q4
      have hox := HOK.out x (List.mem_of_getElem? hx.out)
      have hul := Nat.le_trans (Nat.le_trans (Nat.le_of_eq (congrArg List.length (upB_succ blkB xs hx.out))) (upB_len blkB xs l (k + 1))) hlen
      have HU := Lib.hid hul
      clear hul hkp
      go_wp2_with fail
      obtain ⟨wa, hwa⟩ : ∃ wa, wa = wr.alloc (.cells #[.slice Ap x.phis.length cp, .slice Ai x.ins.length ci, .int .i64 x.term.kind, .int .i64 x.term.arg, .slice At x.term.to.length ct] 63) := ⟨_, rfl⟩
      obtain ⟨hWa, hSa, -, -⟩ := hwr.alloc (.cells #[.slice Ap x.phis.length cp, .slice Ai x.ins.length ci, .int .i64 x.term.kind, .int .i64 x.term.arg, .slice At x.term.to.length ct] 63)
      rw [← hwa] at hWa hSa ⊢
      clear hwa
      refine (block_any w0 P wa _ x _ ⟨Ap, cp, Ai, ci, At, ct, rfl, y0, y1, y4, y2, y3⟩ hox hWa HU.out).mono ?_
      rintro e w2 ⟨rfl, hw2, hs2⟩
      rw [upB_succ blkB xs hx.out] at hw2
      go_wp2_with fail
      go_roundw
      case rel => exact ⟨k + 1, by omega, by go_num, hw2, (hsr.trans hSa).trans hs2⟩
      case measure => simp [intOf]; omega
    · have e := upB_all blkB xs (l := l) (k := k) (by omega)
      rw [e] at hwr
      go_wp2_with fail
      go_end0
      exact ⟨rfl, hwr, hsr⟩

set_option maxRecDepth 100000 in
set_option maxHeartbeats 1000000 in
theorem function_any (w0 : World) (P : Nat) (w : World) (xs : List UInt8) (p : FunD) (v : Value) (hv : VFun w0 v p) (hok : okFun p) (hw : Wri w0 P w xs) (hlen : (xs ++ funB p).length ≤ 1099511627776) :
    Calls Tryz.prog 45 #[.pointer (some ⟨P, 0, none⟩), v] w (ToldW w0 P w (xs ++ funB p)) := by
  obtain ⟨Ar, cr, Ab, cb, rfl, hr, hb, hp64, hr64⟩ := hv
  obtain ⟨⟨h1, h2⟩, ⟨h3, h4⟩, h5, h6, h7⟩ := hok
  have e : xs ++ funB p = xs ++ intB p.params ++ intB p.result ++ intsB p.regs ++ blksB p.blocks := by unfold funB; simp only [List.append_assoc]
  rw [e] at hlen ⊢
  simp only [List.length_append] at hlen
  have HL := Lib.hid hlen
  clear e hlen
  go_enter Tryz.func45, Tryz.ntmps45
  go_wp2_with fail
  obtain ⟨w1, hw1⟩ : ∃ w1, w1 = w.alloc (.cells #[.int .i64 p.params, .int .i64 p.result, .slice Ar p.regs.length cr, .slice Ab p.blocks.length cb] 57) := ⟨_, rfl⟩
  obtain ⟨hW1, hS1, ha1, hb1⟩ := hw.alloc (.cells #[.int .i64 p.params, .int .i64 p.result, .slice Ar p.regs.length cr, .slice Ab p.blocks.length cb] 57)
  rw [← hw1] at hW1 hS1 ha1 hb1 ⊢
  clear hw1 hw
  refine (number_any w0 P _ _ p.params ⟨h1, by omega⟩ hW1 (by have := HL.out; first | omega | (simp only [List.length_append]; omega))).mono ?_
  rintro e w2 ⟨rfl, hW2, hs2⟩
  obtain ⟨ha2, hb2⟩ := hs2.keep ha1 hb1
  have hS2 := hS1.trans hs2
  clear hs2 ha1 hb1
  have c2_1 := cell_of_block hb2 1
  go_wp2_with fail
  clear c2_1
  refine (number_any w0 P _ _ p.result ⟨h3, by omega⟩ hW2 (by have := HL.out; first | omega | (simp only [List.length_append]; omega))).mono ?_
  rintro e w3 ⟨rfl, hW3, hs3⟩
  obtain ⟨ha3, hb3⟩ := hs3.keep ha2 hb2
  have hS3 := hS2.trans hs3
  clear hs3 ha2 hb2
  have c3_2 := cell_of_block hb3 2
  go_wp2_with fail
  clear c3_2
  refine (numbers_any w0 P _ _ p.regs Ar cr hr h5.2 hW3 (by have := HL.out; first | omega | (simp only [List.length_append]; omega))).mono ?_
  rintro e w4 ⟨rfl, hW4, hs4⟩
  obtain ⟨ha4, hb4⟩ := hs4.keep ha3 hb3
  have hS4 := hS3.trans hs4
  clear hs4 ha3 hb3
  have c4_3 := cell_of_block hb4 3
  go_wp2_with fail
  clear c4_3
  refine (writeBlks_any w0 P _ _ p.blocks Ab cb hb h7 hW4 (by have := HL.out; first | omega | (simp only [List.length_append]; omega))).mono ?_
  rintro e w5 ⟨rfl, hW5, hs5⟩
  obtain ⟨ha5, hb5⟩ := hs5.keep ha4 hb4
  have hS5 := hS4.trans hs5
  clear hs5 ha4 hb4
  go_wp2_with fail
  go_end0
  exact ⟨rfl, hW5, hS5⟩

set_option maxRecDepth 100000 in
set_option maxHeartbeats 1000000 in
theorem writeFuns_any (w0 : World) (P : Nat) (w : World) (xs : List UInt8) (l : List FunD) (A : Option Addr) (c : Nat) (hl : SL w0 4 RFun A c l) (hok : ∀ x ∈ l, okFun x) (hn : Calls Tryz.prog 77 #[.pointer (some ⟨P, 0, none⟩), .int .i64 l.length] w (ToldW w0 P w (xs ++ intB l.length))) (hlen : (xs ++ funsB l).length ≤ 1099511627776) :
    Calls Tryz.prog 44 #[.pointer (some ⟨P, 0, none⟩), .slice A l.length c, .func (.func 45) #[.pointer (some ⟨P, 0, none⟩)] #[]] w (ToldW w0 P w (xs ++ funsB l)) := by
  have hll := hl.len
  have HOK := Lib.hid hok
  have hxl : xs.length ≤ 1099511627776 := by rw [List.length_append] at hlen; omega
  clear hok
  have HN := Lib.hid hn
  clear hn
  go_enter Tryz.func44, Tryz.ntmps44
  go_wp2_with fail
  refine (HN.out).mono ?_
  rintro e w1 ⟨rfl, hw1, hs1⟩
  rw [upB_zero funB] at hw1
  go_wp2_with fail
  go_loopw [14] (fun i wr => ∃ k : Nat, k ≤ l.length ∧ i = .int .i64 k ∧ Wri w0 P wr (upB funB xs l k) ∧ WS P w wr) (fun i _ => l.length - (intOf i).toNat)
  case atStart => exact ⟨0, Nat.zero_le _, rfl, hw1, hs1⟩
  case round =>
    obtain ⟨k, hk, rfl, hwr, hsr⟩ := hrel
    by_cases hlt : k < l.length
    · obtain ⟨b, o, x, rfl, hx, hR⟩ := hl.at_ hlt
      obtain ⟨⟨q0, y0⟩, ⟨q1, y1⟩, ⟨Ar, cr, q2, y2⟩, Ab, cb, q3, y3⟩ := hR
      have hkp := hwr.keep
      have q0 := hkp _ _ q0
      have q1 := hkp _ _ q1
      have q2 := hkp _ _ q2
      have q3 := hkp _ _ q3
      have hox := HOK.out x (List.mem_of_getElem? hx.out)
      have hul := Nat.le_trans (Nat.le_trans (Nat.le_of_eq (congrArg List.length (upB_succ funB xs hx.out))) (upB_len funB xs l (k + 1))) hlen
      have HU := Lib.hid hul
      clear hul hkp
      go_wp2_with fail
      obtain ⟨wa, hwa⟩ : ∃ wa, wa = wr.alloc (.cells #[.int .i64 x.params, .int .i64 x.result, .slice Ar x.regs.length cr, .slice Ab x.blocks.length cb] 57) := ⟨_, rfl⟩
      obtain ⟨hWa, hSa, -, -⟩ := hwr.alloc (.cells #[.int .i64 x.params, .int .i64 x.result, .slice Ar x.regs.length cr, .slice Ab x.blocks.length cb] 57)
      rw [← hwa] at hWa hSa ⊢
      clear hwa
      refine (function_any w0 P wa _ x _ ⟨Ar, cr, Ab, cb, rfl, y2, y3, y0, y1⟩ hox hWa HU.out).mono ?_
      rintro e w2 ⟨rfl, hw2, hs2⟩
      rw [upB_succ funB xs hx.out] at hw2
      go_wp2_with fail
      go_roundw
      case rel => exact ⟨k + 1, by omega, by go_num, hw2, (hsr.trans hSa).trans hs2⟩
      case measure => simp [intOf]; omega
    · have e := upB_all funB xs (l := l) (k := k) (by omega)
      rw [e] at hwr
      go_wp2_with fail
      go_end0
      exact ⟨rfl, hwr, hsr⟩

end Go.Proofs.YtoidhjmhakajlaaGreatDoor
