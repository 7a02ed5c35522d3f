/- The program's ringsOf. -/
import Derived.Test.YtdfiflbkamhchaaCaOJ
import Derived.Deep.RegionWith
import Derived.Test.YtdfiflbkamhchaaAheadLJ
import Derived.OrdersHeld
import Derived.RegionTactic
import Derived.Lib.Hide
namespace Go.Proofs.Ytdfiflbkamhchaa
open Go.ChangeShapes Go.WideShapes Go.RowKit Go.Deep
set_option linter.unusedVariables false

/-- append([][]int{}, xs...) -/
theorem run_append_rows (ty : TypeId) {w : World} {g n c G : Nat} {V : Nat → Value} (hg : w.heap[g]? = some (.cells #[] 34 (0, 0))) (hG : w.rowIs G 34 n V) (h1 : ∀ i, i < n → (V i).oneCell' = true) (hn : n ≤ 1000000) :
    ∃ g' cap w', (Builtin.append_ #[54, 54] ty #[.slice (some ⟨g, 0, none⟩) 0 0, .slice (some ⟨G, 0, none⟩) n c]).run Try.prog w = .ok (.slice (some ⟨g', 0, none⟩) n cap) w' ∧ w.grownBy w' (some g) ∧ w'.ownsRow g 34 1 (.slice (some ⟨g', 0, none⟩) n cap) n ((List.range n).map V) ∧ (g' = g ∨ g' = w.heap.size) := by
  obtain ⟨i0, hi, hz0, hz1, hz2⟩ := info_parts Try.info34
  have hgl : g < w.heap.size := (Array.getElem?_eq_some_iff.1 hg).1
  have hown : w.ownsRow g 34 1 (.slice (some ⟨g, 0, none⟩) 0 0) 0 [] := ⟨rfl, .inr ⟨g, 0, #[], rfl, Nat.le_refl _, hg, Nat.le_refl _, Nat.zero_le _, rfl, rfl⟩⟩
  have hlen : ((List.range n).map V).length = n := by simp
  have hnews : ∀ j u, ((List.range n).map V)[j]? = some u → w.cell? ((⟨G, 0, none⟩ : Addr).add j) = some u := by
    intro j u hu
    rw [List.getElem?_map] at hu
    obtain ⟨x, hx, rfl⟩ := Option.map_eq_some_iff.1 hu
    obtain ⟨hj, rfl⟩ := List.getElem?_eq_some_iff.1 hx
    have hjn : j < n := by simpa using hj
    rw [show (⟨G, 0, none⟩ : Addr).add j = ⟨G, j, none⟩ by unfold Addr.add; split <;> simp_all, List.getElem_range]
    exact hG.cell hjn
  have hone : ∀ u ∈ (List.range n).map V, u.oneCell' = true := by
    intro u hu
    obtain ⟨i, hi, rfl⟩ := List.mem_map.1 hu
    exact h1 i (List.mem_range.1 hi)
  obtain ⟨v', w', hr, h2, h3, _, hat⟩ := run_append_own_at (P := Try.prog) w g 54 ty 34 i0 (.slice none 0 0) 1 24 Try.underlyingC54 hi hz0 hz1 hz2 rfl (by decide) _ 0 [] hown ⟨G, 0, none⟩ n c ((List.range n).map V) (by simp) hnews hone
    (by unfold maxLen; omega) (by omega) (by omega)
  rw [Nat.zero_add, List.nil_append] at h2
  obtain ⟨g', cap, rfl⟩ : ∃ g' cap, v' = .slice (some ⟨g', 0, none⟩) n cap := by
    rcases h2.2 with ⟨rfl, _⟩ | ⟨g', c', cur, e, -⟩
    · rcases hat with h | h <;> cases h
    · exact ⟨g', c', e⟩
  exact ⟨g', cap, w', hr, h3, h2, by
    rcases hat with h | h
    · exact .inl (Option.some.inj h)
    · exact .inr (Option.some.inj h)⟩

/-- What slices.Clone tells of a row of rows. -/
def ToldCR (n : Nat) (V : Nat → Value) (w : World) (e : Ending) (w' : World) : Prop :=
  ∃ g cap lv, e = .returned (.slice (some ⟨g, 0, none⟩) n cap) ∧ w.heap.size ≤ g ∧ n ≤ cap ∧ cap ≤ maxLen ∧ w'.rowIs g 34 cap lv ∧ (∀ i, i < n → lv i = V i) ∧ Below w.heap.size w w'
theorem rowIs_own {w : World} {K n g cap : Nat} {e : TypeId} {f : Nat → Value} (h : w.ownsRow K e 1 (.slice (some ⟨g, 0, none⟩) n cap) n ((List.range n).map f)) : ∃ lv, w.rowIs g e cap lv ∧ n ≤ cap ∧ cap ≤ maxLen ∧ ∀ i, i < n → lv i = f i := by
  have h0 := h
  obtain ⟨h1, h2⟩ := h
  rcases h2 with ⟨h0, _⟩ | ⟨g', cap', cur, hv, hg, hh, hn, hcap, hsz, ht⟩
  · cases h0
  cases hv
  refine ⟨fun i => cur[i]!, ⟨cur, hh, by omega, fun i hi => ?_⟩, hn, hcap, fun i hi => ?_⟩
  · have : i < cur.size := by omega
    simp [this]
  · have hi2 : i < cur.size := by omega
    have h3 : cur.toList[i]? = some (f i) := by
      have h4 : (cur.toList.take (n * 1))[i]? = ((List.range n).map f)[i]? := by rw [ht]
      rw [List.getElem?_take, if_pos (by omega)] at h4
      rw [h4]; simp [hi]
    rw [Array.getElem?_toList, Array.getElem?_eq_getElem hi2] at h3
    show cur[i]! = f i
    rw [getElem!_pos cur i hi2]
    exact Option.some.inj h3
set_option maxRecDepth 100000 in
theorem cloneRows_any {w : World} {n c G : Nat} {V : Nat → Value} (hG : w.rowIs G 34 n V) (h1 : ∀ i, i < n → (V i).oneCell' = true) (hn : n ≤ 1000000) :
    Calls Try.prog 49 #[.slice (some ⟨G, 0, none⟩) n c] w (ToldCR n V w) := by
  have heq := Lib.run_eql_slice_nil (P := Try.prog) w 54 34 (some ⟨G, 0, none⟩) n c 0 0 Try.underlyingC54
  have hG' : (w.alloc (.cells #[] 34)).rowIs G 34 n V := hG.alloc _
  obtain ⟨g', cap, w', hr, hg, hown, hat⟩ := run_append_rows 54 (c := c) (heap_alloc_new w (.cells #[] 34)) hG' h1 hn
  have hB : Below w.heap.size w w' := ((Below.refl w.heap.size w).alloc (Nat.le_refl _) (.cells #[] 34)).grown hg (by simp) (fun k hk => by have := Option.some.inj hk; omega)
  have hgs : w.heap.size ≤ g' := (hown.lt g' rfl).1
  have HF := Lib.hid (And.intro hown (And.intro hB hgs))
  clear hown hB hg hG hG' hgs h1
  go_enter Try.func49, Try.ntmps49
  go_wp2_with (first | (at_builtin; refine wpList_append_runsC rfl (.tmp 5) (.tmp 6) 54 54 rfl _ _ rfl rfl hr ?_) | simp only [heq, Option.isNone])
  go_ret
  obtain ⟨lv, h1, h2, h3, h4⟩ := rowIs_own HF.out.1
  exact ⟨g', cap, lv, rfl, HF.out.2.2, h2, h3, h1, h4, HF.out.2.1⟩

/-- Rings in memory: a row of rows, each of the caller's own. -/
structure RowsM (w : World) (K : Nat) (v : Value) (V : Nat → Value) (rs : List (List Nat)) : Prop where
  row : w.ownsRow K 34 1 v rs.length ((List.range rs.length).map V)
  own : ∀ i r, rs[i]? = some r → w.ownsRow K 3 1 (V i) r.length (natV r)
  ap : ∀ i, i < rs.length → (V i).ownBlock = none ∨ (V i).ownBlock ≠ v.ownBlock
/-- What is told of calls. -/
structure CallsM (w : World) (n G : Nat) (V : Nat → Value) (c : Nat → List Nat) : Prop where
  row : w.rowIs G 34 n V
  vs : ∀ i, i < n → VS w 1 RInt (V i) (natI (c i))
def ToldRg (n : Nat) (c : Nat → List Nat) (w : World) (e : Ending) (w' : World) : Prop :=
  ∃ v V rs, e = .returned v ∧ RgA n c rs ∧ Below w.heap.size w w' ∧ RowsM w' w.heap.size v V rs
/-- Behind the making of the search. -/
def WcTs (w : World) (n : Nat) (V : Nat → Value) (s3 : Value) (wc : World) : Prop :=
  ∃ L C F P cl lv, s3 = .pointer (some ⟨P, 0, none⟩) ∧ (w.heap.size ≤ L ∧ w.heap.size ≤ C ∧ w.heap.size ≤ F ∧ w.heap.size ≤ P) ∧ (L < wc.heap.size ∧ C < wc.heap.size ∧ F < wc.heap.size ∧ P < wc.heap.size) ∧
    (L ≠ C ∧ L ≠ F ∧ L ≠ P ∧ C ≠ F ∧ C ≠ P ∧ F ≠ P) ∧ n ≤ cl ∧ cl ≤ maxLen ∧
    wc.heap[P]? = some (.cells #[.slice (some ⟨L, 0, none⟩) n cl, .slice (some ⟨C, 0, none⟩) n n, .slice (some ⟨F, 0, none⟩) n n, .slice none 0 0, .slice none 0 0, .int .i64 0, .slice none 0 0] 107) ∧
    wc.rowIs L 34 cl lv ∧ (∀ i, i < n → lv i = V i) ∧ wc.heap[C]? = some (.cells (madeCells #[.int .i64 0] n) 3) ∧ wc.heap[F]? = some (.cells (madeCells #[.int .i64 0] n) 3) ∧ Below w.heap.size w wc

def zsO (n : Nat) : Obj := .cells (madeCells #[.int .i64 0] n) 3
def bxO (n L cl C F : Nat) : Obj := .cells #[.slice (some ⟨L, 0, none⟩) n cl, .slice (some ⟨C, 0, none⟩) n n, .slice (some ⟨F, 0, none⟩) n n, .slice none 0 0, .slice none 0 0, .int .i64 0, .slice none 0 0] 107
theorem coreTs {w wc : World} {n : Nat} {V : Nat → Value} {L C F P cl x y : Nat} {lv : Nat → Value} (hCF : (C = x ∧ F = y) ∨ (C = y ∧ F = x)) (h1 : w.heap.size ≤ L ∧ w.heap.size ≤ x ∧ w.heap.size ≤ y ∧ w.heap.size ≤ P)
    (h2 : L < wc.heap.size ∧ x < wc.heap.size ∧ y < wc.heap.size ∧ P < wc.heap.size) (h3 : L ≠ x ∧ L ≠ y ∧ L ≠ P ∧ x ≠ y ∧ x ≠ P ∧ y ≠ P) (h4 : n ≤ cl) (h5 : cl ≤ maxLen) (hP : wc.heap[P]? = some (bxO n L cl C F)) (hL : wc.rowIs L 34 cl lv) (hl : ∀ i, i < n → lv i = V i)
    (hx : wc.heap[x]? = some (zsO n)) (hy : wc.heap[y]? = some (zsO n)) (hb : Below w.heap.size w wc) : WcTs w n V (.pointer (some ⟨P, 0, none⟩)) wc := by
  rcases hCF with ⟨rfl, rfl⟩ | ⟨rfl, rfl⟩
  · exact ⟨L, _, _, P, cl, lv, rfl, h1, h2, h3, h4, h5, hP, hL, hl, hx, hy, hb⟩
  · exact ⟨L, _, _, P, cl, lv, rfl, by omega, by omega, by omega, h4, h5, hP, hL, hl, hy, hx, hb⟩
theorem leafTs0 {w w1 wc : World} {n : Nat} {V : Nat → Value} {L C F cl : Nat} {lv : Nat → Value} (hCF : (C = w1.heap.size ∧ F = w1.heap.size + 1) ∨ (C = w1.heap.size + 1 ∧ F = w1.heap.size)) (hg : w.drew.heap.size ≤ L) (h4 : n ≤ cl) (h5 : cl ≤ maxLen)
    (hL : w1.rowIs L 34 cl lv) (hl : ∀ i, i < n → lv i = V i) (hb : Below w.drew.heap.size w.drew w1) (hW : wc = ((w1.alloc (zsO n)).alloc (zsO n)).alloc (bxO n L cl C F)) : WcTs w n V (.pointer (some ⟨w1.heap.size + 1 + 1, 0, none⟩)) wc := by
  have hs : w.drew.heap.size = w.heap.size := rfl
  rw [hs] at hg hb
  have hlt := hL.lt
  have h0 := hb.size
  have hs0 : w.heap.size ≤ w1.heap.size := h0
  have hbw : Below w.heap.size w w1 := (Below.refl _ w).drew.trans hb
  have hz : wc.heap.size = w1.heap.size + 3 := by rw [hW]; simp
  have ho : ∀ k, k < w1.heap.size → wc.heap[k]? = w1.heap[k]? := fun k hk => by
    rw [hW]
    exact (Below.heap_alloc _ _ _ (by simp; omega)).trans ((Below.heap_alloc _ _ _ (by simp; omega)).trans (Below.heap_alloc _ _ _ hk))
  refine coreTs hCF (by omega) (by omega) (by omega) h4 h5 ?_ (hL.of_block (ho L hlt)) hl ?_ ?_ ?_
  · rw [hW]
    have := heap_alloc_new ((w1.alloc (zsO n)).alloc (zsO n)) (bxO n L cl C F)
    simpa using this
  · rw [hW]
    exact (Below.heap_alloc _ _ _ (by simp; omega)).trans ((Below.heap_alloc _ _ _ (by simp)).trans (heap_alloc_new w1 (zsO n)))
  · rw [hW]
    refine (Below.heap_alloc _ _ _ (by simp)).trans ?_
    have := heap_alloc_new (w1.alloc (zsO n)) (zsO n)
    simpa using this
  · rw [hW]
    exact ((hbw.alloc hs0 _).alloc (by simp; omega) _).alloc (by simp; omega) _
theorem leafTs1 {w w1 wc : World} {n : Nat} {V : Nat → Value} {L C F cl : Nat} {lv : Nat → Value} (hCF : (C = w.heap.size ∧ F = w1.heap.size) ∨ (C = w1.heap.size ∧ F = w.heap.size)) (hg : (w.alloc (zsO n)).drew.heap.size ≤ L) (h4 : n ≤ cl) (h5 : cl ≤ maxLen)
    (hL : w1.rowIs L 34 cl lv) (hl : ∀ i, i < n → lv i = V i) (hb : Below (w.alloc (zsO n)).drew.heap.size (w.alloc (zsO n)).drew w1) (hW : wc = (w1.alloc (zsO n)).alloc (bxO n L cl C F)) : WcTs w n V (.pointer (some ⟨w1.heap.size + 1, 0, none⟩)) wc := by
  have hs : (w.alloc (zsO n)).drew.heap.size = w.heap.size + 1 := by show (w.alloc (zsO n)).heap.size = _; simp
  have h0 := hb.size
  rw [hs] at hg hb h0
  have hlt := hL.lt
  have hbw : Below w.heap.size w w1 := ((Below.refl _ w).alloc (Nat.le_refl _) (zsO n)).drew.trans (hb.mono (by omega))
  have hz : wc.heap.size = w1.heap.size + 2 := by rw [hW]; simp
  have ho : ∀ k, k < w1.heap.size → wc.heap[k]? = w1.heap[k]? := fun k hk => by
    rw [hW]
    exact (Below.heap_alloc _ _ _ (by simp; omega)).trans (Below.heap_alloc _ _ _ hk)
  refine coreTs hCF (by omega) (by omega) (by omega) h4 h5 ?_ (hL.of_block (ho L hlt)) hl ?_ ?_ ?_
  · rw [hW]
    have := heap_alloc_new (w1.alloc (zsO n)) (bxO n L cl C F)
    simpa using this
  · exact (ho _ (by omega)).trans ((hb.block _ (by omega)).trans (heap_alloc_new w (zsO n)))
  · rw [hW]
    exact (Below.heap_alloc _ _ _ (by simp)).trans (heap_alloc_new w1 (zsO n))
  · rw [hW]
    exact (hbw.alloc (by omega) _).alloc (by simp; omega) _
theorem leafTs2 {w w1 wc : World} {n : Nat} {V : Nat → Value} {L C F cl : Nat} {lv : Nat → Value} (hCF : (C = w.heap.size ∧ F = w.heap.size + 1) ∨ (C = w.heap.size + 1 ∧ F = w.heap.size)) (hg : ((w.alloc (zsO n)).alloc (zsO n)).drew.heap.size ≤ L) (h4 : n ≤ cl) (h5 : cl ≤ maxLen)
    (hL : w1.rowIs L 34 cl lv) (hl : ∀ i, i < n → lv i = V i) (hb : Below ((w.alloc (zsO n)).alloc (zsO n)).drew.heap.size ((w.alloc (zsO n)).alloc (zsO n)).drew w1) (hW : wc = w1.alloc (bxO n L cl C F)) : WcTs w n V (.pointer (some ⟨w1.heap.size, 0, none⟩)) wc := by
  have hs : ((w.alloc (zsO n)).alloc (zsO n)).drew.heap.size = w.heap.size + 2 := by show ((w.alloc (zsO n)).alloc (zsO n)).heap.size = _; simp
  have h0 := hb.size
  rw [hs] at hg hb h0
  have hlt := hL.lt
  have hbw : Below w.heap.size w w1 := (((Below.refl _ w).alloc (Nat.le_refl _) (zsO n)).alloc (by simp) (zsO n)).drew.trans (hb.mono (by omega))
  have hz : wc.heap.size = w1.heap.size + 1 := by rw [hW]; simp
  have ho : ∀ k, k < w1.heap.size → wc.heap[k]? = w1.heap[k]? := fun k hk => by
    rw [hW]
    exact Below.heap_alloc _ _ _ hk
  refine coreTs hCF (by omega) (by omega) (by omega) h4 h5 ?_ (hL.of_block (ho L hlt)) hl ?_ ?_ ?_
  · rw [hW]; exact heap_alloc_new w1 (bxO n L cl C F)
  · exact (ho _ (by omega)).trans ((hb.block _ (by omega)).trans ((Below.heap_alloc _ _ _ (by simp)).trans (heap_alloc_new w (zsO n))))
  · refine (ho _ (by omega)).trans ((hb.block _ (by omega)).trans ?_)
    have := heap_alloc_new (w.alloc (zsO n)) (zsO n)
    show ((w.alloc (zsO n)).alloc (zsO n)).heap[w.heap.size + 1]? = _
    simpa using this
  · rw [hW]; exact hbw.alloc (by omega) _

set_option maxRecDepth 100000 in
set_option maxHeartbeats 8000000 in
theorem ringsOf_any {w : World} {n c0 G : Nat} {V : Nat → Value} {c : Nat → List Nat} (h : CallsM w n G V c) (hc : ∀ f g, g ∈ c f → g < n) (hn : n ≤ 1000) :
    Calls Try.prog 34 #[.slice (some ⟨G, 0, none⟩) n c0] w (ToldRg n c w) := by
  have hmk := run_make_row' (P := Try.prog) 34 3 (.int .i64 0) 8 Try.underlying34 Try.info3 rfl .i64 .i64 n (by omega) (by omega)
  have h1 : ∀ i, i < n → (V i).oneCell' = true := fun i hi => by obtain ⟨A, c, e, _⟩ := h.vs i hi; rw [e]; rfl
  have HV := Lib.hid (And.intro h hc)
  have HG := Lib.hid (show ∀ w' : World, Below w.heap.size w w' → Calls Try.prog 49 #[.slice (some ⟨G, 0, none⟩) n c0] w' (ToldCR n V w') from fun w' hb => cloneRows_any (h.row.of_block (hb.block G h.row.lt)) h1 (by omega))
  clear h hc h1
  go_enter Try.func34, Try.ntmps34
  go_upto_region 1 with fail
  go_cut [3] (fun s3 wc => WcTs w n V s3 wc)
  case first =>
    go_region_with (go_at_call 49; refine (HG.out _ (by repeat first | exact Below.refl _ _ | refine Below.drew ?_ | refine Below.alloc ?_ (by first | exact Nat.le_refl _ | (simp; done) | (simp; omega)) _)).mono ?_; rintro e w1 ⟨g1, cap1, lv1, rfl, hg1, hc1, hc2, hr1, hl1, hb1⟩)
    all_goals (go_wp2_with fail; go_meet)
    all_goals (
      case rel =>
        first
        | exact leafTs0 (by first | exact .inl ⟨rfl, rfl⟩ | exact .inr ⟨rfl, rfl⟩) hg1 hc1 hc2 hr1 hl1 hb1 rfl
        | exact leafTs1 (by first | exact .inl ⟨rfl, rfl⟩ | exact .inr ⟨rfl, rfl⟩) hg1 hc1 hc2 hr1 hl1 hb1 rfl
        | exact leafTs2 (by first | exact .inl ⟨rfl, rfl⟩ | exact .inr ⟨rfl, rfl⟩) hg1 hc1 hc2 hr1 hl1 hb1 rfl)
  case rest =>
    obtain ⟨L, C, F, P, cl, lv, rfl, hge, hlt, hne, hcl1, hcl2, hP, hL, hlv, hC, hF, hB⟩ := hcut
    have hM0 : TsM w w.heap.size n wc.heap.size L C F P cl wc lv 3 (fun _ => .slice none 0 0) (fun i => if i = 2 then ⟨34, 1, 0, []⟩ else caR []) ⟨c, fun _ => 0, fun _ => 0, [], [], 0, []⟩ := by
      refine ⟨rfl, by omega, hne, ⟨hcl1, hcl2⟩, hP, hL, fun f hf => by rw [hlv f hf]; exact HV.out.1.vs f hf, (row_madeQ hC).congr fun _ _ => rfl, (row_madeQ hF).congr fun _ _ => rfl, ⟨fun i hi => ?_, fun i j _ _ _ => .inl rfl⟩, by simp, rfl, rfl, rfl, fun i r hi => by simp at hi, hB, Nat.le_refl _⟩
      show wc.ownsRow _ _ _ _ _ _
      by_cases e : i = 2
      · rw [if_pos e]; exact World.ownsRow_nil _ _ _ _
      · rw [if_neg e]; exact World.ownsRow_nil _ _ _ _
    have HM0 := Lib.hid hM0
    have HKS := Lib.hid (And.intro hge hlt)
    obtain ⟨K, hK⟩ : ∃ K, K = wc.heap.size := ⟨_, rfl⟩
    rw [← hK] at HM0
    obtain ⟨H, hH⟩ : ∃ H, H = w.heap.size := ⟨_, rfl⟩
    rw [← hH] at HM0
    have HH := Lib.hid hH
    clear hM0 hP hL hlv hC hF hB hge hlt hmk hK hH
    go_wp2_with fail
    go_loopw [17] (fun i wq => ∃ (f : Nat) (lv' : Nat → Value) (U' : Nat → Value) (T' : Nat → RowD) (s' : TsS), f ≤ n ∧ i = .int .i64 (f : Int) ∧ TsM w H n K L C F P cl wq lv' (3 + s'.rings.length) U' T' s' ∧ TsI n c noX s' ∧ s'.way = [] ∧ ∀ x, x < f → s'.come x ≠ 0) (fun i _ => n - (intOf i).toNat)
    case atStart => exact ⟨0, lv, _, _, ⟨c, fun _ => 0, fun _ => 0, [], [], 0, []⟩, Nat.zero_le _, rfl, HM0.out, TsI.start n c, rfl, fun x hx => by omega⟩
    case round =>
      obtain ⟨f, lv', U', T', s', hfn, rfl, hM, hI, hW, hS⟩ := hrel
      obtain ⟨wL, rfl⟩ : ∃ wL, wL = wr := ⟨_, rfl⟩
      have HM := Lib.hid hM
      have HI := Lib.hid hI
      have HW := Lib.hid hW
      have HS := Lib.hid hS
      by_cases hf : f < n
      · have hf0 : (0 : Int) ≤ f := by omega
        have hf1 : (f : Int) < n := by omega
        obtain ⟨-, p1, -, -, -, -, -, -⟩ := hM.cells
        have q1 := hM.cr.cell hf
        by_cases hz : s'.come f = 0
        · rw [hz] at q1
          have hwz := hI.wz
          have hsz := hI.sz
          have hml := hI.many_le
          have hcl := enterT_any hM rfl (by omega) (by omega) (by omega) hn f hf
          have hIE : TsI n c noX (enterS s' f) := hI.enter hf hz (fun a b h => h.elim) (fun w hw => by rw [hW] at hw; cases hw)
          have HCL := Lib.hid hcl
          have HIE := Lib.hid hIE
          clear hM hI hW hS hwz hsz hml hcl hIE hz
          go_upto_region 7 with (go_at_call 50; refine HCL.out.mono ?_; rintro e W4 ⟨rfl, lv4, U4, T4, hM4⟩)
          have HGO := Lib.hid (goOnC_any hM4 HIE.out HV.out.2 hn)
          clear hM4
          go_wp2_with (go_at_call 51; refine HGO.out.mono ?_; rintro e W5 ⟨rfl, lv5, U5, T5, s5, hM5, hI5, hw5, hs5⟩)
          have HS5 := Lib.hid hs5
          clear hs5
          go_roundw
          case rel => exact ⟨f + 1, lv5, U5, T5, s5, by omega, by go_num, hM5, hI5, hw5, fun x hx => by
            refine HS5.out x ?_
            show updN s'.come f (s'.many + 1) x ≠ 0
            by_cases e : x = f
            · rw [e, updN_here]; omega
            · rw [updN_else _ _ e]; exact HS.out x (by omega)⟩
          case measure => simp [intOf]; omega
        · have hd : ((s'.come f : Int) == 0) = false := by simp; omega
          have hd2 : ¬ ((s'.come f : Int) = 0) := by omega
          obtain ⟨cf, hcf⟩ : ∃ cf, cf = s'.come f := ⟨_, rfl⟩
          rw [← hcf] at q1 hd hd2
          have HCF := Lib.hid hcf
          clear hM hI hW hS hz hcf
          go_wp2_with fail
          go_roundw
          case rel => exact ⟨f + 1, lv', U', T', s', by omega, by go_num, HM.out, HI.out, HW.out, fun x hx => by
            by_cases e : x = f
            · rw [e, ← HCF.out]; omega
            · exact HS.out x (by omega)⟩
          case measure => simp [intOf]; omega
      · obtain rfl : f = n := by omega
        obtain ⟨-, -, -, -, -, -, p6, -⟩ := hM.cells
        have hR := hI.rings_ hW (fun x hx => hS x hx)
        have hrow : wL.ownsRow K 34 1 (U' 2) s'.rings.length ((List.range s'.rings.length).map fun i => U' (3 + i)) := by have h1 := hM.pool.own 2 (by omega); rw [hM.t2] at h1; exact h1
        have hKH : H ≤ K := by have := hM.nb; omega
        have hRM : RowsM wL H (U' 2) (fun i => U' (3 + i)) s'.rings := ⟨owns_mono_ hrow hKH, fun i r hi => by
          have hl := (List.getElem?_eq_some_iff.1 hi).1
          have h1 := hM.pool.own (3 + i) (by omega)
          rw [hM.t3 i r hi] at h1
          exact owns_mono_ h1 hKH, fun i hi => hM.pool.ap (3 + i) 2 (by omega) (by omega) (by omega)⟩
        have HRM := Lib.hid (And.intro hR hRM)
        have HBL := Lib.hid hM.bel
        clear hM hI hW hS hR hRM hrow
        go_wp2_with fail
        go_ret
        exact ⟨_, _, _, rfl, HRM.out.1, by rw [← HH.out]; exact HBL.out, by rw [← HH.out]; exact HRM.out.2⟩
end Go.Proofs.Ytdfiflbkamhchaa

/- The reference's Small: what it lets by is small. -/
namespace Go.Proofs.Ytdfiflbkamhchaa
open Go.ChangeShapes Go.WideShapes Go.RowKit Go.Deep
set_option linter.unusedVariables false

def Says (p : Prop) (B : Nat) (w : World) (e : Ending) (w' : World) : Prop := (∃ b : Bool, e = .returned (.bool b) ∧ (b = true → p)) ∧ Below B w w'
theorem Says.no {p : Prop} {B : Nat} {w w' : World} (h : Below B w w') : Says p B w (.returned (.bool false)) w' := ⟨⟨false, rfl, fun h => by cases h⟩, h⟩

set_option maxRecDepth 100000 in
set_option maxHeartbeats 4000000 in
theorem small_any (m : List FunD) (v : Value) (w : World) (hv : VMod w v m) :
    Calls Try.prog 8 #[v] w (Says (SmallM m) w.heap.size w) := by
  obtain ⟨A, c, rfl, hm⟩ := hv
  have hml := hm.len
  by_cases h40 : 40 < m.length
  · go_enter Try.func8, Try.ntmps8
    go_wp2_with fail
    go_ret
    exact Says.no ((Below.refl _ _).alloc (Nat.le_refl _) _)
  · go_enter Try.func8, Try.ntmps8
    go_wp2_with fail
    obtain ⟨w1, hw1, hs1, hk1, hbel1, hc1, -⟩ := named w #[.slice A m.length c] 24
    have hc1 := hc1 0 _ rfl
    have hs1 : w.heap.size < w1.heap.size := by omega
    rw [← hw1]
    clear hw1
    go_loopw [3] (fun i wr => ∃ k : Nat, k ≤ m.length ∧ i = .int .i64 k ∧ Below w1.heap.size w1 wr ∧ Upto SmallF m k) (fun i _ => m.length - (intOf i).toNat)
    case atStart => exact ⟨0, Nat.zero_le _, rfl, Below.refl _ _, Upto.zero⟩
    case round =>
      obtain ⟨k, hk, rfl, hbel, hup⟩ := hrel
      obtain ⟨wo, rfl⟩ : ∃ wo, wo = wr := ⟨wr, rfl⟩
      have hs := hbel.size
      have hkw : Kept w1 wo := kept_of_below hbel
      have hbox := hkw _ _ hc1
      have hB : Below w.heap.size w wo := hbel1.trans (hbel.mono (by omega))
      by_cases hlt : k < m.length
      · obtain ⟨b, o, f, rfl, hf, ⟨hp, -⟩, ⟨hr, -⟩, ⟨Ar, cr, hreg, hregs⟩, ⟨Ab, cb, hblk, hblks⟩⟩ := (SFuns.keep (hk1.trans hkw) hm).at_ hlt
        have hrl := hregs.len
        have hbl := hblks.len
        by_cases hok : f.blocks.length ≤ 70 ∧ f.regs.length ≤ 300 ∧ f.params ≤ 1000
        · obtain ⟨ho1, ho2, ho3⟩ := hok
          go_wp2_with fail
          clear hp hr hreg
          obtain ⟨w2, hw2, hs2, hk2, hbel2, hc2, -⟩ := named wo #[.int .i64 f.params, .int .i64 f.result, .slice Ar f.regs.length cr, .slice Ab f.blocks.length cb] 43
          have hc2 := hc2 3 _ rfl
          have hs2 : wo.heap.size < w2.heap.size := by omega
          rw [← hw2]
          clear hw2 hblk
          go_loopw [5] (fun i wr => ∃ j : Nat, j ≤ f.blocks.length ∧ i = .int .i64 j ∧ Below w2.heap.size w2 wr ∧ Upto SmallB f.blocks j) (fun i _ => f.blocks.length - (intOf i).toNat)
          case atStart => exact ⟨0, Nat.zero_le _, rfl, Below.refl _ _, Upto.zero⟩
          case round =>
            obtain ⟨j, hj, rfl, hbel', hup'⟩ := hrel
            have hs' := hbel'.size
            have hkw' : Kept w2 wr := kept_of_below hbel'
            have hbox' := hkw' _ _ hc2
            have hB' : Below w.heap.size w wr := hB.trans ((hbel2.mono (by omega)).trans (hbel'.mono (by omega)))
            by_cases hlt' : j < f.blocks.length
            · obtain ⟨b', o', kb, rfl, hkb, ⟨Ap, cp, hphi, hphis⟩, ⟨Ai, ci, hins, hinss⟩, ⟨hkd, -⟩, ⟨har, -⟩, ⟨At, ct, hto, htos⟩⟩ := (SBlks.keep (hk2.trans hkw') hblks).at_ hlt'
              have hpl := hphis.len
              have hil := hinss.len
              have htl := htos.len
              by_cases hok' : kb.ins.length ≤ 300 ∧ kb.phis.length ≤ 300 ∧ kb.term.to.length ≤ 70
              · obtain ⟨hp1, hp2, hp3⟩ := hok'
                go_wp2_with fail
                clear hphi hkd har hto
                obtain ⟨w3, hw3, hs3, hk3, hbel3, hc3, -⟩ := named wr #[.slice Ap kb.phis.length cp, .slice Ai kb.ins.length ci, .int .i64 kb.term.kind, .int .i64 kb.term.arg, .slice At kb.term.to.length ct] 40
                have hc30 := hc3 0 _ rfl
                have hc31 := hc3 1 _ rfl
                have hs3 : wr.heap.size < w3.heap.size := by omega
                have hB3 : Below w.heap.size w w3 := hB'.trans (hbel3.mono (by omega))
                rw [← hw3]
                clear hw3 hins hc3
                have hinss3 := SInss.keep hk3 hinss
                have hphis3 := SPhis.keep hk3 hphis
                clear hinss hphis
                go_loopw [7] (fun i wi => ∃ n q : Nat, n ≤ kb.ins.length ∧ i = .int .i64 n ∧ wi = w3.drewN q ∧ Upto (fun x : InsD => x.args.length ≤ 300) kb.ins n) (fun i _ => kb.ins.length - (intOf i).toNat)
                case atStart => exact ⟨0, 0, Nat.zero_le _, rfl, rfl, Upto.zero⟩
                case round =>
                  obtain ⟨n, q, hn, rfl, rfl, hup3⟩ := hrel
                  by_cases hlt3 : n < kb.ins.length
                  · obtain ⟨b3, o3, x, rfl, hx, -, -, ⟨Aa, ca, hag, hags⟩, -, -⟩ := hinss3.at_ hlt3
                    have hal := hags.len
                    by_cases hok3 : x.args.length ≤ 300
                    · go_wp2_with fail
                      go_roundw
                      case rel => exact ⟨n + 1, _, by omega, by go_num, rfl, hup3.succ hx.out hok3⟩
                      case measure => simp [intOf]; omega
                    · go_wp2_with fail
                      go_ret
                      exact Says.no (below_drewN hB3 _)
                  · go_wp2_with fail
                    have hi3 := hup3.all (by omega)
                    have HI3 := Lib.hid hi3
                    clear hi3 hup3
                    go_loopw [8] (fun i wi => ∃ n q : Nat, n ≤ kb.phis.length ∧ i = .int .i64 n ∧ wi = w3.drewN q ∧ Upto (fun x : PhiD => x.args.length ≤ 300) kb.phis n) (fun i _ => kb.phis.length - (intOf i).toNat)
                    case atStart => exact ⟨0, q, Nat.zero_le _, rfl, rfl, Upto.zero⟩
                    case round =>
                      obtain ⟨n', q', hn', rfl, rfl, hup4⟩ := hrel
                      by_cases hlt4 : n' < kb.phis.length
                      · obtain ⟨b4, o4, x, rfl, hx, -, ⟨Aa, ca, hag, hags⟩⟩ := hphis3.at_ hlt4
                        have hal := hags.len
                        by_cases hok3 : x.args.length ≤ 300
                        · go_wp2_with fail
                          go_roundw
                          case rel => exact ⟨n' + 1, _, by omega, by go_num, rfl, hup4.succ hx.out hok3⟩
                          case measure => simp [intOf]; omega
                        · go_wp2_with fail
                          go_ret
                          exact Says.no (below_drewN hB3 _)
                      · go_wp2_with fail
                        go_roundw
                        case rel => exact ⟨j + 1, by omega, by go_num, below_drewN ((hbel'.trans (hbel3.mono (by omega)))) _, hup'.succ hkb.out ⟨hp1, hp2, hp3, HI3.out, hup4.all (by omega)⟩⟩
                        case measure => simp [intOf]; omega
              · have hno : 300 < kb.ins.length ∨ 300 < kb.phis.length ∨ 70 < kb.term.to.length := by omega
                clear hok'
                by_cases hq1 : 300 < kb.ins.length
                · clear hno
                  go_wp2_with fail
                  all_goals (go_ret; exact Says.no (hB'.alloc (by omega) _))
                · by_cases hq2 : 300 < kb.phis.length
                  · clear hno
                    go_wp2_with fail
                    all_goals (go_ret; exact Says.no (hB'.alloc (by omega) _))
                  · have hq3 : 70 < kb.term.to.length := by omega
                    clear hno
                    go_wp2_with fail
                    all_goals (go_ret; exact Says.no (hB'.alloc (by omega) _))
            · go_wp2_with fail
              go_roundw
              case rel => exact ⟨k + 1, by omega, by go_num, hbel.trans ((hbel2.mono (by omega)).trans (hbel'.mono (by omega))), hup.succ hf.out ⟨ho1, ho2, ho3, hup'.all (by omega)⟩⟩
              case measure => simp [intOf]; omega
        · have hno : 70 < f.blocks.length ∨ 300 < f.regs.length ∨ 1000 < f.params := by omega
          clear hok
          by_cases hq1 : 70 < f.blocks.length
          · clear hno
            go_wp2_with fail
            all_goals (go_ret; exact Says.no (hB.alloc (by omega) _))
          · by_cases hq2 : 300 < f.regs.length
            · clear hno
              go_wp2_with fail
              all_goals (go_ret; exact Says.no (hB.alloc (by omega) _))
            · have hq3 : 1000 < f.params := by omega
              clear hno
              go_wp2_with fail
              all_goals (go_ret; exact Says.no (hB.alloc (by omega) _))
      · go_wp2_with fail
        go_ret
        exact ⟨⟨true, rfl, fun _ => ⟨by omega, hup.all (by omega)⟩⟩, hB⟩
end Go.Proofs.Ytdfiflbkamhchaa

/- A region that draws its order, whose last operation waits for all others: the others first, in whatever order, with a condition on the world that need not hold behind the last one. Over any program. -/
namespace Go.Proofs.Ytdfiflbkamhchaa
open Go
set_option linter.unusedVariables false

section
variable {P : Program} {ops : Array Oper} {Q : Exit → Act → World → Prop} {md : Region.Mode} {S : World → Prop}

/-- Edges lead to what stands ahead in the text. -/
def downB (md : Region.Mode) (ops : Array Oper) : Bool :=
  (List.range ops.size).all fun i => ((ops[i]?).map fun o => o.after.all fun e => !Region.binds md e || decide (e.on < i)).getD true
/-- Each but number L is waited for by one behind it. -/
def feedsB (md : Region.Mode) (ops : Array Oper) (L : Nat) : Bool :=
  (List.range L).all fun i => (List.range (L + 1)).any fun j => decide (i < j) && ((ops[j]?).map fun o => o.after.any fun e => Region.binds md e && decide (e.on = i)).getD false

theorem downB_spec (h : downB md ops = true) {i : Nat} {o : Oper} (ho : ops[i]? = some o) : ∀ e ∈ o.after, Region.binds md e = true → e.on < i := by
  intro e he hb
  unfold downB at h
  have hi : i < ops.size := (Array.getElem?_eq_some_iff.1 ho).1
  have h1 := List.all_eq_true.1 h i (List.mem_range.2 hi)
  rw [ho] at h1
  simp only [Option.map_some, Option.getD_some, Array.all_eq_true_iff_forall_mem] at h1
  have h2 := h1 e he
  simpa [hb] using h2
theorem feedsB_spec {L : Nat} (h : feedsB md ops L = true) {i : Nat} (hi : i < L) : ∃ j o e, i < j ∧ j ≤ L ∧ ops[j]? = some o ∧ e ∈ o.after ∧ Region.binds md e = true ∧ e.on = i := by
  unfold feedsB at h
  have h1 := List.all_eq_true.1 h i (List.mem_range.2 hi)
  obtain ⟨j, hj, h2⟩ := List.any_eq_true.1 h1
  rw [Bool.and_eq_true] at h2
  obtain ⟨h3, h4⟩ := h2
  cases ho : ops[j]? with
  | none => rw [ho] at h4; simp at h4
  | some o =>
    rw [ho] at h4
    simp only [Option.map_some, Option.getD_some, Array.any_eq_true'] at h4
    obtain ⟨e, he, hb⟩ := h4
    rw [Bool.and_eq_true] at hb
    exact ⟨j, o, e, of_decide_eq_true h3, by have := List.mem_range.1 hj; omega, ho, he, hb.1, of_decide_eq_true hb.2⟩

/-- What has come up had all that it waits for. -/
def Closed (md : Region.Mode) (ops : Array Oper) (listed : Array Bool) : Prop :=
  ∀ i o, ops[i]? = some o → listed.getD i true = true → ∀ e ∈ o.after, Region.binds md e = true → listed.getD e.on false = true

theorem getD_two {l : Array Bool} {i : Nat} (h : i < l.size) (a b : Bool) : l.getD i a = l.getD i b := by
  simp [Array.getD, h]
theorem getD_set_self {l : Array Bool} {i : Nat} (h : i < l.size) (d : Bool) : (l.setIfInBounds i true).getD i d = true := by
  simp [Array.getD, h]

theorem Closed.set {listed : Array Bool} (hc : Closed md ops listed) (hs : listed.size = ops.size) {i : Nat} (hi : i ∈ Region.ready md ops listed) : Closed md ops (listed.setIfInBounds i true) := by
  intro j o ho hj e he hb
  by_cases hji : j = i
  · subst hji
    obtain ⟨_, o', ho', hall⟩ := mem_ready.1 hi
    rw [ho] at ho'
    cases ho'
    exact getD_set_true (hall e he hb)
  · rw [getD_set_ne true (Ne.symm hji)] at hj
    exact getD_set_true (hc j o ho hj e he hb)

/-- When the last one may come up, all others have. -/
theorem all_of_last {L : Nat} {listed : Array Bool} (hsz : ops.size = L + 1) (hs : listed.size = ops.size) (hf : feedsB md ops L = true) (hc : Closed md ops listed) (hL : L ∈ Region.ready md ops listed) : ∀ i, i < L → listed.getD i true = true := by
  have key : ∀ n i, L - i ≤ n → i < L → listed.getD i true = true := by
    intro n
    induction n with
    | zero => intro i h1 h2; omega
    | succ n ih =>
      intro i h1 h2
      obtain ⟨j, o, e, hij, hjL, ho, he, hb, hei⟩ := feedsB_spec hf h2
      have h3 : listed.getD e.on false = true := by
        by_cases hj : j = L
        · subst hj
          obtain ⟨_, o', ho', hall⟩ := mem_ready.1 hL
          rw [ho] at ho'
          cases ho'
          exact hall e he hb
        · exact hc j o ho (ih j (by omega) (by omega)) e he hb
      rw [hei] at h3
      rw [getD_two (by omega) true false]
      exact h3
  exact fun i hi => key (L - i) i (Nat.le_refl _) hi
/-- While the last one has not come up, one may. -/
theorem ready_some {L : Nat} {listed : Array Bool} (hsz : ops.size = L + 1) (hs : listed.size = ops.size) (hd : downB md ops = true) (hL : listed.getD L true = false) : Region.ready md ops listed ≠ [] := by
  have key : ∀ n i, i ≤ n → i ≤ L → listed.getD i true = false → ∃ k, k ∈ Region.ready md ops listed := by
    intro n
    induction n with
    | zero =>
      intro i h1 h2 h3
      obtain rfl : i = 0 := by omega
      have ho : ops[0]? = some ops[0] := Array.getElem?_eq_getElem (by omega)
      exact ⟨0, mem_ready.2 ⟨h3, _, ho, fun e he hb => absurd (downB_spec hd ho e he hb) (by omega)⟩⟩
    | succ n ih =>
      intro i h1 h2 h3
      have ho : ops[i]? = some ops[i] := Array.getElem?_eq_getElem (by omega)
      by_cases hall : ∀ e ∈ ops[i].after, Region.binds md e = true → listed.getD e.on false = true
      · exact ⟨i, mem_ready.2 ⟨h3, _, ho, hall⟩⟩
      · simp only [Classical.not_forall] at hall
        obtain ⟨e, he, hb, hno⟩ := hall
        have hlt := downB_spec hd ho e he hb
        refine ih e.on (by omega) (by omega) ?_
        rw [getD_two (by omega) true false]
        simpa using hno
  obtain ⟨k, hk⟩ := key L L (Nat.le_refl _) (Nat.le_refl _) hL
  intro h0
  rw [h0] at hk
  cases hk

/-- The post behind all but the last: the last one's turn. -/
def LastQ (P : Program) (ops : Array Oper) (Q : Exit → Act → World → Prop) (L : Nat) : Exit → Act → World → Prop
  | .normal, a, w => wpOp P ops Q L (Q .normal) a w
  | e, a, w => Q e a w

theorem upon_last {L : Nat} {o : Oper} {a : Act} {K : Act → World → Prop} {r : Result Next} (h : o.upon P a K (LastQ P ops Q L) r) : o.upon P a K Q r := by
  cases r with
  | ok n w' =>
    cases n <;> simp only [Oper.upon] at h ⊢ <;> exact h
  | halt x w' => cases x <;> simp only [Oper.upon] at h ⊢ <;> exact h
theorem wpOp_last {L i : Nat} {K : Act → World → Prop} {a : Act} {w : World} (h : wpOp P ops (LastQ P ops Q L) i K a w) : wpOp P ops Q i K a w := by
  unfold wpOp at *
  split
  · rename_i ho; simp only [ho] at h; exact h
  · rename_i o ho
    simp only [ho] at h
    split
    · rename_i hw; simp only [hw, if_true] at h; exact h.imp (fun h => by unfold Oper.wp at *; exact upon_last h) (fun h => ⟨h.1, h.2⟩)
    · rename_i hw; simp only [hw] at h; exact h

theorem wpAny_last {L : Nat} (hsz : ops.size = L + 1) (hd : downB md ops = true) (hf : feedsB md ops L = true) :
    ∀ (fuel : Nat) (listed : Array Bool) (a : Act) (w : World), listed.size = ops.size → Closed md ops listed → listed.getD L true = false →
      wpAnyH P md ops (LastQ P ops Q L) S fuel (listed.setIfInBounds L true) a w → wpAny P md ops Q (fuel + 1) listed a w := by
  intro fuel
  induction fuel with
  | zero =>
    intro listed a w hs hc hL H
    refine ⟨fun h0 => absurd h0 (ready_some hsz hs hd hL), fun i hi => ?_⟩
    by_cases hiL : i = L
    · subst hiL
      exact wpOp_mono (fun a' w' h' => ⟨H.1, h'⟩) (show wpOp P ops Q i (Q .normal) a w from H.2)
    · have := ready_mono hi hiL
      rw [H.1] at this
      cases this
  | succ fuel ih =>
    intro listed a w hs hc hL H
    refine ⟨fun h0 => absurd h0 (ready_some hsz hs hd hL), fun i hi => ?_⟩
    by_cases hiL : i = L
    · subst hiL
      have hall := all_of_last hsz hs hf hc hi
      have hr : Region.ready md ops (listed.setIfInBounds i true) = [] := by
        rw [List.eq_nil_iff_forall_not_mem]
        intro k hk
        obtain ⟨h0, o, ho, _⟩ := mem_ready.1 hk
        have hkl : k < ops.size := (Array.getElem?_eq_some_iff.1 ho).1
        by_cases hki : k = i
        · subst hki
          rw [getD_set_self (by omega)] at h0
          cases h0
        · rw [getD_set_ne true (Ne.symm hki), hall k (by omega)] at h0
          cases h0
      exact wpOp_mono (fun a' w' h' => wpAny_done hr h' _) (show wpOp P ops Q i (Q .normal) a w from H.1 hr)
    · have h1 := wpOp_last (H.2 i (ready_mono hi hiL))
      refine wpOp_mono (fun a' w' h' => ih (listed.setIfInBounds i true) a' w' (by simpa using hs) (hc.set hs hi) ?_ ?_) h1
      · rw [getD_set_ne true hiL]; exact hL
      · rw [Array.setIfInBounds_comm _ _ hiL]; exact h'.2

/-- THE LAW. -/
theorem wp_region_last {id L : Nat} {a : Act} {w : World} (hm : P.follows .mixedOrders = true) (hsz : ops.size = L + 1) (hd : downB .any ops = true) (hf : feedsB .any ops L = true)
    (h : wpAnyH P .any ops (LastQ P ops Q L) S L ((Array.replicate ops.size false).setIfInBounds L true) a { w with drawn := w.drawn + 1 }) : (Code.region id ops true).wp P Q a w := by
  refine wp_region_any hm ?_
  have h2 := wpAny_last (md := .any) (Q := Q) (S := S) hsz hd hf L (Array.replicate ops.size false) a { w with drawn := w.drawn + 1 } (by simp) (fun i o ho hi => ?_) (by simp [Array.getD, hsz]) h
  · rwa [← hsz] at h2
  · have hlt := (Array.getElem?_eq_some_iff.1 ho).1
    simp [Array.getD, hlt] at hi

/-- Take number i first: what it writes to is said by the caller. -/
theorem takeH {i : Nat} (d : Option Tmp) {v : Value} {fuel : Nat} {listed : Array Bool} {a : Act} {w : World} (hd : (ops[i]?).map (·.dst) = some d)
    (hs : Region.noSelect ops = true) (hf : Region.free md ops listed i = true) (hr : (Region.ready md ops listed).contains i = true)
    (hQ : ∀ c a w, Q (.panic c) (a.put d v) w → Q (.panic c) a w) (hS : S w) (hy : ∀ o, ops[i]? = some o → YieldsIf P ops S o v a)
    (h : wpAnyH P md ops Q S fuel (listed.setIfInBounds i true) (a.put d v) w) : wpAnyH P md ops Q S (fuel + 1) listed a w := by
  cases ho : ops[i]? with
  | none => rw [ho] at hd; cases hd
  | some o =>
    rw [ho] at hd
    obtain rfl := Option.some.inj hd
    exact wpAnyH_take ho hs hf hr hQ (hy o ho) hS h
/-- Number i alone may come up. -/
theorem oneH {i : Nat} {fuel : Nat} {listed : Array Bool} {a : Act} {w : World} (hr : Region.ready md ops listed = [i])
    (h : ∀ o, ops[i]? = some o → ∀ K : Act → World → Prop, RowKit.Hid (∀ a' w', S w' → wpAnyH P md ops Q S fuel (listed.setIfInBounds i true) a' w' → K a' w') → if Region.wanted o (yielded ops a.tmps) = true then Oper.wp P o a w K Q else K (a.put o.dst undef) w) :
    wpAnyH P md ops Q S (fuel + 1) listed a w := by
  refine wpAnyH_all hr (by simp) fun k hk => ?_
  obtain rfl := List.mem_singleton.1 hk
  unfold wpOp
  split
  · rename_i ho
    have : k ∈ Region.ready md ops listed := by rw [hr]; simp
    obtain ⟨_, o, ho', _⟩ := mem_ready.1 this
    rw [ho] at ho'; cases ho'
  · rename_i o ho
    have := h o ho (fun a' w' => S w' ∧ wpAnyH P md ops Q S fuel (listed.setIfInBounds k true) a' w') (Lib.hid (fun a' w' h1 h2 => ⟨h1, h2⟩))
    split
    · rename_i hw; rw [if_pos hw] at this; exact .inl this
    · rename_i hw; rw [if_neg hw] at this; exact this
/-- The last one. -/
theorem lastH {L : Nat} {a : Act} {w : World} (hL : L < ops.size)
    (h : ∀ o, ops[L]? = some o → ∀ K : Act → World → Prop, RowKit.Hid (∀ a' w', Q .normal a' w' → K a' w') → if Region.wanted o (yielded ops a.tmps) = true then Oper.wp P o a w K Q else K (a.put o.dst undef) w) : LastQ P ops Q L .normal a w := by
  show wpOp P ops Q L (Q .normal) a w
  have ho : ops[L]? = some ops[L] := Array.getElem?_eq_getElem hL
  have := h _ ho (Q .normal) (Lib.hid (fun a' w' h1 => h1))
  unfold wpOp
  simp only [ho]
  split
  · rename_i hw; rw [if_pos hw] at this; exact .inl this
  · rename_i hw; rw [if_neg hw] at this; exact this
end
end Go.Proofs.Ytdfiflbkamhchaa
