/- The reference of layer 3, written: Number, signed, list. -/
import Derived.Test.YtoidhjmhakajlaaGreatDoorEncJ
import Derived.Test.YtoidhjmhakajlaaGreatDoorByaJ
namespace Go.Proofs.YtoidhjmhakajlaaGreatDoor
open Go.ChangeShapes Go.WideShapes Go.RowKit Go.Deep
set_option linter.unusedVariables false

theorem sl_of_bytes {w : World} {base g cap : Nat} {xs : List UInt8} (h : w.ownsRow base 5 1 (.slice (some ⟨g, 0, none⟩) xs.length cap) xs.length (xs.map bv)) : SL w 1 RByte (some ⟨g, 0, none⟩) cap xs := by
  rcases h.2 with ⟨h0, -⟩ | ⟨g', c', cur, e, hb, hh, hn, hc, hsz, ht⟩
  · cases h0
  · simp only [Value.slice.injEq, Option.some.injEq, Addr.mk.injEq] at e
    obtain ⟨⟨rfl, -, -⟩, -, rfl⟩ := e
    refine ⟨hn, ⟨hc, fun e => by cases e⟩, fun _ => ⟨g, 0, rfl, fun i x hi => ?_⟩⟩
    have := h.cells (g := g) rfl i (bv x) (by rw [List.getElem?_map, hi]; rfl)
    rw [add_plain'] at this
    rw [Nat.mul_one]
    exact this
theorem mod_byte (k : Nat) : (128 : Int) + (k : Int) % 128 = (UInt8.ofNat (k % 128 + 128)).toNat := by rw [byte_of (by omega)]; omega
theorem cp_owns3 {w w' : World} {base n size : Nat} {e : TypeId} {v : Value} {xs : List Value} (h : w.ownsRow base e size v n xs) (hb : ∀ g, v.ownBlock = some g → w'.heap[g]? = w.heap[g]?) : w'.ownsRow base e size v n xs := by
  obtain ⟨h1, h2⟩ := h
  refine ⟨h1, ?_⟩
  rcases h2 with h2 | ⟨g, cap, cur, hv, hb1, hh, rest⟩
  · exact .inl h2
  · exact .inr ⟨g, cap, cur, hv, hb1, (hb g (by rw [hv]; rfl)).trans hh, rest⟩
theorem wrap_div {k : Nat} (h : k < 18446744073709551616) : IntKind.u64.wrap ((k : Int) / 128) = ((k / 128 : Nat) : Int) := by
  have : (k : Int) / 128 = ((k / 128 : Nat) : Int) := by omega
  rw [this]
  rw [IntKind.wrap_u64]
  omega
set_option maxRecDepth 100000 in
set_option maxHeartbeats 1000000 in
/-- A number's bytes, in new memory. -/
theorem refNumber_any (n : Nat) (w : World) (hn : n < 18446744073709551616) : Calls Tryz.prog 27 #[.int .u64 n] w (ToldB w (numB n)) := by
  obtain ⟨i0, hi, hz0, hz1, hz2⟩ := info_parts Tryz.info5
  have HI := Lib.hid (And.intro hi (And.intro hz0 (And.intro hz1 hz2)))
  clear hi hz0 hz1 hz2
  have HN := Lib.hid hn
  clear hn
  go_enter Tryz.func27, Tryz.ntmps27
  go_wp2_with fail
  go_loopw [0, 3] (fun m u wr => ∃ (k : Nat) (ys : List UInt8), m = .int .u64 k ∧ Hid (k < 18446744073709551616) ∧ Hid (ys ++ numB k = numB n) ∧ wr.ownsRow w.heap.size 5 1 u ys.length (ys.map bv) ∧ Hid (Below w.heap.size w wr)) (fun m _ _ => (intOf m).toNat)
  case atStart => exact ⟨n, [], rfl, HN, Lib.hid rfl, World.ownsRow_nil _ _ _ _, Lib.hid (Below.refl _ _)⟩
  case round =>
    obtain ⟨k, ys, rfl, hk, he, ho, hb⟩ := hrel
    have hyl : ys.length ≤ 10 := by
      have h1 := congrArg List.length he.out
      rw [List.length_append] at h1
      have h2 := numB_len10 HN.out
      omega
    have hsz := hb.out.size
    have hlt := ho.lt
    have HLT := Lib.hid hlt
    clear hlt
    by_cases h0 : k < 128
    · have H0 := Lib.hid h0
      go_wp2_with (at_builtin; refine wpList_append_lies _ rfl (.tmp 15) (.tmp 18) 27 rfl w.heap.size 5 i0 (.int .u8 0) 1 1 Tryz.underlying27 HI.out.1 HI.out.2.1 HI.out.2.2.1 HI.out.2.2.2 rfl (by decide) _ _ _ rfl (ho.alloc _) ⟨wr.heap.size, 0, none⟩ 1 1 [_] rfl rfl (cell_one_new _ _ _) (oneCell_bv _ rfl) (by decide) (by unfold maxLen; omega) (by omega) (by simp; omega) (wr.heap.size + 1) (by simp) ?_; intro g cap w1 hown1 hgr hloc hltg)
      go_ret
      have e : (ys ++ [UInt8.ofNat k]) = numB n := by rw [← he.out, numB_lt H0.out]
      have e2 : (numB n).length = ys.length + 1 := by rw [← e]; simp
      refine ⟨_, rfl, ⟨g, cap, by rw [e2]; rfl, ?_⟩, (hb.out.alloc hsz _).grown hgr (by simp; omega) (fun k hk => (HLT.out k hk).1)⟩
      rw [← e]
      simpa [bv, byte_of (show k < 256 by omega)] using hown1
    · have H0 := Lib.hid h0
      go_wp2_with (at_builtin; refine wpList_append_lies _ rfl (.tmp 6) (.tmp 11) 27 rfl w.heap.size 5 i0 (.int .u8 0) 1 1 Tryz.underlying27 HI.out.1 HI.out.2.1 HI.out.2.2.1 HI.out.2.2.2 rfl (by decide) _ _ _ rfl (ho.alloc _) ⟨wr.heap.size, 0, none⟩ 1 1 [_] rfl rfl (cell_one_new _ _ _) (oneCell_bv _ rfl) (by decide) (by unfold maxLen; omega) (by omega) (by simp; omega) (wr.heap.size + 1) (by simp) ?_; intro g cap w1 hown1 hgr hloc hltg)
      go_roundw
      case rel =>
        refine ⟨k / 128, ys ++ [UInt8.ofNat (k % 128 + 128)], by rw [wrap_div hk.out], Lib.hid (by have := hk.out; omega), Lib.hid ?_, ?_, Lib.hid ((hb.out.alloc hsz _).grown hgr (by simp; omega) (fun k hk => (HLT.out k hk).1))⟩
        · rw [← he.out, numB_ge H0.out, List.append_assoc]; rfl
        · rw [mod_byte] at hown1
          simpa [bv] using hown1
      case measure => rw [wrap_div hk.out]; simp [intOf]; omega

set_option maxRecDepth 100000 in
set_option maxHeartbeats 1000000 in
/-- One with a sign. -/
theorem refSigned_any (x : Int) (w : World) (hx : I64 x) : Calls Tryz.prog 29 #[.int .i64 x] w (ToldB w (numB (zig x))) := by
  have hz := zig_lt hx
  have HN := Lib.hid (refNumber_any (zig x) w hz)
  unfold I64 at hx
  by_cases h : 0 ≤ x
  · obtain ⟨k, rfl⟩ : ∃ k : Nat, x = k := ⟨x.toNat, by omega⟩
    have hz : zig (k : Int) = k * 2 := by unfold zig; rw [if_pos h]; omega
    rw [hz] at HN ⊢
    have hc : ((k * 2 : Nat) : Int) = (k : Int) * 2 := by omega
    go_enter Tryz.func29, Tryz.ntmps29
    go_wp2_with fail
    rw [← hc]
    refine HN.out.mono ?_
    rintro e w1 ⟨b, rfl, hb, hbel⟩
    go_wp2_with fail
    go_ret
    exact ⟨b, rfl, hb, hbel⟩
  · obtain ⟨k, rfl⟩ : ∃ k : Nat, x = -(k : Int) - 1 := ⟨(-x - 1).toNat, by omega⟩
    have hz : zig (-(k : Int) - 1) = k * 2 + 1 := by unfold zig; rw [if_neg h]; omega
    rw [hz] at HN ⊢
    have hc : ((k * 2 + 1 : Nat) : Int) = (k : Int) * 2 + 1 := by omega
    have hn : ¬ 0 ≤ -(k : Int) - 1 := h
    have e1 : -(k : Int) - 1 + 1 = -(k : Int) := by omega
    go_enter Tryz.func29, Tryz.ntmps29
    go_wp2_with fail
    rw [← hc]
    refine HN.out.mono ?_
    rintro e w1 ⟨b, rfl, hb, hbel⟩
    go_wp2_with fail
    go_ret
    exact ⟨b, rfl, hb, hbel⟩

/-- Bytes are told of, in a row that the call owns. -/
theorem ints_step {l : List Int} {k : Nat} {x : Int} (h : l[k]? = some x) : (l.take (k + 1)).flatMap intB = (l.take k).flatMap intB ++ intB x := by
  rw [take_succ_of h, List.flatMap_append]; simp
theorem ints_few {l : List Int} {k : Nat} (h : okInts l) : ((l.take k).flatMap intB).length ≤ 256 * 10 := by
  have h1 := flat_len (b := intB) (n := 10) (l := l.take k) (fun x hx => intB_len (h.2 x (List.mem_of_mem_take hx)))
  have h2 : (l.take k).length ≤ 256 := by rw [List.length_take]; have := h.1; omega
  have h3 : (l.take k).length * 10 ≤ 256 * 10 := Nat.mul_le_mul_right _ h2
  omega
set_option maxRecDepth 100000 in
set_option maxHeartbeats 2000000 in
/-- A list of numbers. -/
theorem refList_any (l : List Int) (v : Value) (w : World) (hv : VS w 1 RInt v l) (hok : okInts l) : Calls Tryz.prog 28 #[v] w (ToldB w (intsB l)) := by
  obtain ⟨A, c, rfl, hs⟩ := hv
  have hl := hs.len
  have hl256 := hok.1
  have HOK := Lib.hid hok
  have HS := Lib.hid hs
  have HN := Lib.hid (refNumber_any l.length w (by omega))
  clear hok hs
  go_enter Tryz.func28, Tryz.ntmps28
  go_wp2_with fail
  refine HN.out.mono ?_
  rintro e w1 ⟨b, rfl, ⟨g, cap, rfl, hown⟩, hb1⟩
  have HB1 := Lib.hid hb1
  have HO := Lib.hid hown
  clear hown hb1
  go_wp2_with fail
  go_loopw [3, 4] (fun u i wr => ∃ (k : Nat) (g cap : Nat) (ys : List UInt8), k ≤ l.length ∧ i = .int .i64 k ∧ u = .slice (some ⟨g, 0, none⟩) ys.length cap ∧ Hid (ys = numB l.length ++ (l.take k).flatMap intB) ∧ Hid (wr.ownsRow w.heap.size 5 1 (.slice (some ⟨g, 0, none⟩) ys.length cap) ys.length (ys.map bv)) ∧ Hid (Below w.heap.size w wr)) (fun _ i _ => l.length - (intOf i).toNat)
  case atStart => exact ⟨0, g, cap, numB l.length, Nat.zero_le _, rfl, rfl, Lib.hid (by simp), HO, HB1⟩
  case round =>
    obtain ⟨k, g, cap, ys, hk, rfl, rfl, hys, ho, hb⟩ := hrel
    by_cases hlt : k < l.length
    · obtain ⟨b2, o2, x, rfl, hx, hxc, -⟩ := (SInts.keep (kept_of_below hb.out) HS.out).int hlt
      have hxo := HOK.out.2 x (List.mem_of_getElem? hx.out)
      obtain ⟨p, rfl⟩ : ∃ p : Nat, x = p := ⟨x.toNat, by have := hxo.1; omega⟩
      have hp : p ≤ 2147483648 := by have := hxo.2; omega
      have HNP := Lib.hid (refNumber_any p wr (by omega))
      have hsz := hb.out.size
      have hk0 : (0 : Int) ≤ k := by omega
      have hk1 : (k : Int) < l.length := by omega
      have hyl : ys.length ≤ 2570 := by
        have h1 := ints_few (k := k) HOK.out
        have h2 := numB_len10 (n := l.length) (by omega)
        rw [hys.out, List.length_append]; omega
      clear hxo
      go_wp2_with fail
      refine HNP.out.mono ?_
      rintro e w2 ⟨b3, rfl, ⟨g3, cap3, rfl, hown3⟩, hb3⟩
      have hsz3 := hb3.size
      have ho2 := cp_owns3 ho.out (fun x hx => hb3.block x (ho.out.lt x hx).2)
      have hsl := sl_of_bytes hown3
      have hlt3 := Lib.hid ho2.lt
      have HB3 := Lib.hid (hb.out.trans (hb3.mono hsz))
      clear hb3 hown3
      go_wp2_with (at_builtin; refine wpList_append_bytes rfl (.tmp 15) (.tmp 21) rfl w.heap.size _ ys (numB p) _ _ _ rfl rfl ho2 hsl rfl (by omega) (by have := numB_len10 (n := p) (by omega); omega) ?_; intro v' w3 hown' hgr hloc)
      obtain ⟨g', cap', rfl⟩ := own_slice hown' (by have := numB_pos p; rw [List.length_append]; omega)
      go_roundw
      case rel =>
        refine ⟨k + 1, g', cap', ys ++ numB p, by omega, by go_num, rfl, Lib.hid ?_, Lib.hid hown', Lib.hid (HB3.out.grown hgr (by omega) (fun k hk => (hlt3.out k hk).1))⟩
        rw [ints_step hx.out, hys.out, List.append_assoc]
        rfl
      case measure => simp [intOf]; omega
    · obtain rfl : k = l.length := by omega
      have he : ys = intsB l := by rw [hys.out, List.take_length]; rfl
      have HE := Lib.hid he
      go_wp2_with fail
      go_ret
      rw [HE.out] at ho ⊢
      exact ⟨_, rfl, ⟨g, cap, rfl, ho.out⟩, hb.out⟩
end Go.Proofs.YtoidhjmhakajlaaGreatDoor
