/- write and Encode: a proper module's bytes. -/
import Derived.Test.YtmhodjbplohmiaaGreatDoorWriL
import Derived.Test.YtmhodjbplohmiaaGreatDoorChkE
import Derived.Lib.SlBytesConst
namespace Go.Proofs.YtmhodjbplohmiaaGreatDoor
open Go.ChangeShapes Go.WideShapes Go.RowKit Go.Deep
set_option linter.unusedVariables false

theorem SL.mem {α : Type} {w : World} {sz c : Nat} {R : World → Nat → Nat → α → Prop} {A : Option Addr} {xs : List α} (h : SL w sz R A c xs) {x : α} (hx : x ∈ xs) : ∃ b o, R w b o x := by
  obtain ⟨i, hi⟩ := List.getElem?_of_mem hx
  obtain ⟨b, o, _, hr⟩ := h.2.2 (List.length_pos_of_mem hx)
  exact ⟨b, _, hr i x hi⟩
theorem imms_of {w : World} {v : Value} {m : List FunD} (h : VMod w v m) : Imms m := fun f hf b hb x hx => by
  obtain ⟨_, _, _, hs⟩ := h
  obtain ⟨_, _, _, _, _, _, _, _, h1⟩ := hs.mem hf
  obtain ⟨_, _, _, ⟨_, _, _, h2⟩, _⟩ := h1.mem hb
  obtain ⟨_, _, h3⟩ := h2.mem hx
  exact h3.2.2.2.1.2

/-- Bytes that the call made. -/
def NewB (w w' : World) (b : Value) (ys : List UInt8) : Prop := ∃ g cap, b = .slice (some ⟨g, 0, none⟩) ys.length cap ∧ w'.ownsRow w.heap.size 5 1 (.slice (some ⟨g, 0, none⟩) ys.length cap) ys.length (ys.map bv)
def ToldB (w : World) (ys : List UInt8) (e : Ending) (w' : World) : Prop := ∃ b, e = .returned b ∧ NewB w w' b ys ∧ Below w.heap.size w w'
theorem own_slice {w : World} {base n : Nat} {e : TypeId} {v : Value} {xs : List Value} (h : w.ownsRow base e 1 v n xs) (hn : 0 < n) : ∃ g cap, v = .slice (some ⟨g, 0, none⟩) n cap := by
  obtain ⟨g, cap, e, _, _⟩ := h.form hn
  exact ⟨g, cap, e⟩

set_option maxRecDepth 100000 in
set_option maxHeartbeats 1000000 in
theorem write_any (m : List FunD) (v : Value) (w : World) (hv : VMod w v m) (hok : okMod m) :
    Calls Tryz.prog 18 #[v] w (ToldB w (modB m)) := by
  obtain ⟨A, c, rfl, hs⟩ := hv
  have hlm := mod_len hok
  have h32 := hok.1
  have kc : (convert 27 27 (.slice (some ⟨w.heap.size + 1, 0, none⟩) 4 4)).run Tryz.prog ((w.alloc (.cells #[.slice A m.length c] 24)).alloc (.cells #[.int .u8 102, .int .u8 116, .int .u8 108, .int .u8 49] 5)) =
      .ok (.slice (some ⟨w.heap.size + 1, 0, none⟩) 4 4) ((w.alloc (.cells #[.slice A m.length c] 24)).alloc (.cells #[.int .u8 102, .int .u8 116, .int .u8 108, .int .u8 49] 5 (4, 5))) := by
    have h := Lib.run_convert_bytes_const (P := Tryz.prog) (w.alloc (.cells #[.slice A m.length c] 24)) 27 5 #[.int .u8 102, .int .u8 116, .int .u8 108, .int .u8 49] 4 4 Tryz.underlying27 Tryz.underlying5
    rwa [show (w.alloc (.cells #[.slice A m.length c] 24)).heap.size = w.heap.size + 1 by simp] at h
  go_enter Tryz.func18, Tryz.ntmps18
  go_wp2_with fail
  obtain ⟨w1, hw1⟩ : ∃ w1, w1 = ((w.alloc (.cells #[.slice A m.length c] 24)).alloc (.cells #[.int .u8 102, .int .u8 116, .int .u8 108, .int .u8 49] 5 (4, 5))).alloc (.cells #[.slice (some ⟨w.heap.size + 1, 0, none⟩) 4 4] 86) := ⟨_, rfl⟩
  have e1 : (w.alloc (.cells #[.slice A m.length c] 24)).heap.size = w.heap.size + 1 := by simp
  have e2 : ((w.alloc (.cells #[.slice A m.length c] 24)).alloc (.cells #[.int .u8 102, .int .u8 116, .int .u8 108, .int .u8 49] 5 (4, 5))).heap.size = w.heap.size + 1 + 1 := by simp
  have hB1 : Below w.heap.size w w1 := by rw [hw1]; exact (((Below.refl _ _).alloc (Nat.le_refl _) _).alloc (by simp) _).alloc (by simp; omega) _
  have hP1 : w1.heap[w.heap.size + 1 + 1]? = some (.cells #[.slice (some ⟨w.heap.size + 1, 0, none⟩) 4 4] 86 (0, 0)) := by
    rw [hw1, ← e2]; exact heap_alloc_new _ _
  have hG1 : w1.heap[w.heap.size + 1]? = some (.cells markV 5 (4, 5)) := by
    rw [hw1, Below.heap_alloc _ _ _ (by simp), ← e1]; exact heap_alloc_new _ _
  have hW := withNumber_first w.heap.size m.length (w.heap.size + 1) w1 (by omega) hG1 hB1.size
  have hN := number_of w (w.heap.size + 1 + 1) w1 _ _ m.length (by omega) hB1 (by omega) hP1 (fun k hk => by have := Option.some.inj hk; simp at this; omega) (fun e => by have := Option.some.inj e; simp at this) hW
  rw [← hw1]
  clear hw1 e1 e2 kc hP1 hG1 hW
  refine (writeFuns_any w (w.heap.size + 1 + 1) w1 markB m A c hs hok.2 (by rw [intB_nat]; exact hN) (by show (modB m).length ≤ _; omega)).mono ?_
  rintro e w2 ⟨rfl, ⟨hB2, -, v2, hc2, ho2, hv2⟩, -⟩
  obtain ⟨g, cap, rfl⟩ := own_slice ho2 (by unfold markB; simp)
  have c2 := cell_of_block hc2 0
  clear hN hs
  have HO := Lib.hid ho2
  change Hid (w2.ownsRow w.heap.size 5 1 (.slice (some ⟨g, 0, none⟩) (modB m).length cap) (modB m).length ((modB m).map bv)) at HO
  change w2.cell? ⟨w.heap.size + 1 + 1, 0, none⟩ = #[.slice (some ⟨g, 0, none⟩) (modB m).length cap][0]? at c2
  clear ho2 hc2 hv2
  generalize modB m = ys at *
  go_wp2_with fail
  go_ret
  exact ⟨_, rfl, ⟨g, cap, rfl, HO.out⟩, hB2⟩

/-- What Encode tells. -/
def ToldE (m : List FunD) (w : World) (e : Ending) (w' : World) : Prop :=
  ∃ b v, e = .returned (.tuple #[b, v]) ∧ ErrAt w' v (modE m) ∧ ((modE m).1 ≠ 0 → b = .slice none 0 0) ∧ ((modE m).1 = 0 → NewB w w' b (modB m)) ∧ Below w.heap.size w w'
theorem NewB.base {w0 w w' : World} {b : Value} {ys : List UInt8} (h : NewB w w' b ys) (hb : w0.heap.size ≤ w.heap.size) : NewB w0 w' b ys := by
  obtain ⟨g, cap, e, h1⟩ := h
  exact ⟨g, cap, e, own_base h1 hb⟩

set_option maxRecDepth 100000 in
set_option maxHeartbeats 1000000 in
theorem encode_any (OI : OfIns) (m : List FunD) (v : Value) (w : World) (hv : VMod w v m) (hlim : ∀ f ∈ m, Lim f) :
    Calls Tryz.prog 8 #[v] w (ToldE m w) := by
  have hi := imms_of hv
  have hv0 := hv
  obtain ⟨A, c, rfl, hs⟩ := hv
  go_enter Tryz.func8, Tryz.ntmps8
  go_wp2_with fail
  obtain ⟨w1, hw1, hs1, hk1, hB1, hc1, -⟩ := named w #[.slice A m.length c] 24
  have q0 : w1.cell? ⟨w.heap.size, 0, none⟩ = some (.slice A m.length c) := hc1 0 _ rfl
  rw [← hw1]
  clear hw1 hc1
  refine (module_any OI m _ w1 (VMod.keep hk1 hv0) hlim).mono ?_
  rintro e w2 ⟨⟨ve, rfl, he⟩, hb2⟩
  have hB2 : Below w.heap.size w w2 := hB1.trans (hb2.mono hB1.size)
  have hk2 := kept_of_below hb2
  have q0 := hk2 _ _ q0
  by_cases hp : (modE m).1 = 0
  · obtain rfl := he.nil hp
    have HP := Lib.hid hp
    have HE := Lib.hid he
    clear hp he
    go_wp2_with fail
    refine (write_any m _ w2 (VMod.keep (hk1.trans hk2) hv0) (ok_of_proper HP.out hi)).mono ?_
    rintro e w3 ⟨b, rfl, hn, hb3⟩
    have hB3 : Below w.heap.size w w3 := hB2.trans (hb3.mono hB2.size)
    go_wp2_with fail
    go_ret2
    exact ⟨_, _, rfl, .inl ⟨HP.out, rfl⟩, fun h => absurd HP.out h, fun _ => hn.base hB2.size, hB3⟩
  · obtain ⟨t, x, rfl⟩ := he.iface hp
    have HP := Lib.hid hp
    have HE := Lib.hid he
    clear hp he
    go_wp2_with fail
    go_ret2
    exact ⟨_, _, rfl, HE.out, fun _ => rfl, fun h => absurd h HP.out, hB2⟩
end Go.Proofs.YtmhodjbplohmiaaGreatDoor
