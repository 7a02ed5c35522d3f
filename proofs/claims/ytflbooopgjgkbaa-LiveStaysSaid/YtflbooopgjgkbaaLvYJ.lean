/- Which block dominates which, and the nearest: places told as blocks, in mathematics. No condition. -/
import Derived.Test.YtflbooopgjgkbaaGrUJ
import Derived.Test.YtflbooopgjgkbaaGrWJ
import Derived.Test.YtflbooopgjgkbaaOwnSJ
import Derived.Test.YtflbooopgjgkbaaSmallJ
import Derived.Test.YtflbooopgjgkbaaSameFJ
import Derived.Deep.RegionHeld3
namespace Go.Proofs.Ytflbooopgjgkbaa
open Go.ChangeShapes Go.WideShapes Go.RowKit Go.Deep
set_option linter.unusedVariables false

/-- Whether a block dominates another one, as the document tells it. -/
def dmB (bs : List BlkD) (a b : Nat) : Bool := fromB bs 0 (-1) b && (decide (a = b) || !fromB bs 0 a b)
theorem from_reachD (bs : List BlkD) (x : Nat) : fromB bs 0 (-1) x = reachF bs x := by
  unfold fromB
  by_cases h : 0 < bs.length
  · rw [if_pos ⟨by omega, by omega, by omega⟩]
    exact fromN_reachB (nxF_lt bs) h x
  · rw [if_neg (by omega)]
    unfold reachF reachB
    rw [eq_comm, decide_eq_false_iff_not]
    intro hx
    have := orderL_lt (nxF_lt bs) hx
    omega
theorem from_iff {bs : List BlkD} (hn : 0 < bs.length) {a : Nat} (ha : a ≠ 0) (x : Nat) : fromB bs 0 a x = true ↔ Reach (nxW (nxF bs) a) 0 x := by
  unfold fromB
  rw [if_pos ⟨by omega, by omega, by omega⟩]
  exact fromN_iff (nxF_lt bs) hn x
theorem from_zero (bs : List BlkD) (x : Nat) : fromB bs 0 (0 : Nat) x = false := by unfold fromB; rw [if_neg (by omega)]
/-- The nearest, as the document tells it: the last that fits. -/
def isNear (bs : List BlkD) (b a : Nat) : Bool := decide (a ≠ b) && dmB bs a b && (List.range bs.length).all fun c => decide (c = b) || !dmB bs c b || dmB bs c a
def nearK (bs : List BlkD) (b : Nat) : Nat → Int
  | 0 => -1
  | a + 1 => if isNear bs b a = true then (a : Int) else nearK bs b a
def nearD (bs : List BlkD) (b : Nat) : Int := nearK bs b bs.length
theorem nearK_none {bs : List BlkD} {b : Nat} : ∀ k, (∀ a, a < k → isNear bs b a = false) → nearK bs b k = -1
  | 0, _ => rfl
  | k + 1, h => by unfold nearK; rw [if_neg (by rw [h k (by omega)]; simp)]; exact nearK_none k fun a ha => h a (by omega)
theorem nearK_of {bs : List BlkD} {b a : Nat} (ha : isNear bs b a = true) (hu : ∀ c, c < bs.length → isNear bs b c = true → c = a) : ∀ k, a < k → k ≤ bs.length → nearK bs b k = (a : Int)
  | 0, h, _ => by omega
  | k + 1, h, hk => by
    unfold nearK
    by_cases e : isNear bs b k = true
    · rw [if_pos e, hu k (by omega) e]
    · rw [if_neg e]
      have : k ≠ a := fun h => e (h ▸ ha)
      exact nearK_of ha hu k (by omega) (by omega)

/-- What is known of the blocks' nearest, by places. -/
structure NearB (bs : List BlkD) (N : Nat → Int) (ord : Nat → Nat) : Prop where
  none : ∀ b, b < bs.length → (fromB bs 0 (-1) b = false ∨ b = 0) → N b = -1
  some : ∀ b, b < bs.length → fromB bs 0 (-1) b = true → b ≠ 0 → ∃ a, a < bs.length ∧ N b = (a : Int) ∧ a ≠ b ∧ dmB bs a b = true ∧ ∀ c, c < bs.length → c ≠ b → dmB bs c b = true → dmB bs c a = true
  ord : ∀ a b, a < bs.length → b < bs.length → dmB bs a b = true → ord a ≤ ord b ∧ (ord a = ord b → a = b)
  self : ∀ a, a < bs.length → fromB bs 0 (-1) a = true → dmB bs a a = true
  trans : ∀ a b c, dmB bs a b = true → dmB bs b c = true → dmB bs a c = true
  first : ∀ b, b < bs.length → fromB bs 0 (-1) b = true → dmB bs 0 b = true
  reach : ∀ a b, a < bs.length → b < bs.length → dmB bs a b = true → fromB bs 0 (-1) a = true

variable {bs : List BlkD} {k : Nat} {bl par s D : Nat → Nat} {ah : Nat → List Nat} {pl : Nat → Int}
theorem TvE.av_of (T : TvE (nxF bs) bs.length k bl par ah pl) {p q : Nat} (hp : p < k) (h : AvP (EdgeP (nxF bs) k bl) p q) : q < k ∧ Reach (nxW (nxF bs) (bl p)) 0 (bl q) ∧ bl p ≠ 0 := by
  have hinj : ∀ x y, x < k → y < k → bl x = bl y → x = y := fun x y hx hy e => by
    have h1 := (T.blk x hx).2
    have h2 := (T.blk y hy).2
    rw [e] at h1; omega
  induction h with
  | zero h0 =>
    refine ⟨T.first.1, by rw [T.first.2]; exact .refl, fun e => h0 (hinj 0 p T.first.1 hp (by rw [T.first.2, e]))⟩
  | @step u v h1 h2 h3 ih =>
    obtain ⟨_, i2, i3⟩ := ih
    refine ⟨h2.2.1, .step i2 (nxW_mem.2 ⟨h2.2.2, fun e => h3 (hinj v p h2.2.1 hp (by omega))⟩), i3⟩
theorem TvE.av_to (T : TvE (nxF bs) bs.length k bl par ah pl) {p : Nat} (hp : p < k) (h0 : bl p ≠ 0) {b : Nat} (h : Reach (nxW (nxF bs) (bl p)) 0 b) : ∃ q, q < k ∧ bl q = b ∧ AvP (EdgeP (nxF bs) k bl) p q := by
  induction h with
  | refl => exact ⟨0, T.first.1, T.first.2, .zero fun e => h0 (by rw [← e]; exact T.first.2)⟩
  | @step x y hx hy ih =>
    obtain ⟨q, h1, h2, h3⟩ := ih
    obtain ⟨hy1, hy2⟩ := nxW_mem.1 hy
    have hyn : y < bs.length := nxF_lt bs _ _ hy1
    have hr : Reach (nxF bs) 0 y := by
      have key : ∀ z, Reach (nxW (nxF bs) (bl p)) 0 z → Reach (nxF bs) 0 z := fun z hz => by
        induction hz with
        | refl => exact .refl
        | step _ hb ih => exact .step ih (nxW_mem.1 hb).1
      exact .step (key x hx) hy1
    have hpl := (T.reach y hyn).1 hr
    rcases T.plc y hyn with h4 | ⟨r, h4, h5, h6⟩
    · omega
    · refine ⟨r, h4, h6, .step h3 ⟨h1, h4, by rw [h6, h2]; exact hy1⟩ fun e => hy2 ?_⟩
      rw [← h6, e]
/-- Of places: the one's block dominates the other's. -/
theorem TvE.dm_iff (T : TvE (nxF bs) bs.length k bl par ah pl) (hn : 0 < bs.length) {p q : Nat} (hp : p < k) (hq : q < k) : dmB bs (bl p) (bl q) = true ↔ ¬ AvP (EdgeP (nxF bs) k bl) p q := by
  have hinj : ∀ x y, x < k → y < k → bl x = bl y → x = y := fun x y hx hy e => by
    have h1 := (T.blk x hx).2
    have h2 := (T.blk y hy).2
    rw [e] at h1; omega
  have hre : fromB bs 0 (-1) (bl q) = true := by
    rw [from_reachD]; unfold reachF reachB
    rw [decide_eq_true_iff, orderL_mem (nxF_lt bs) (by omega)]
    exact (T.reach _ (T.blk q hq).1).2 (by rw [(T.blk q hq).2]; omega)
  unfold dmB
  rw [hre, Bool.true_and, Bool.or_eq_true, decide_eq_true_iff]
  constructor
  · rintro (h | h) hav
    · exact av_self hav (hinj q p hq hp h.symm)
    · obtain ⟨_, h2, h3⟩ := T.av_of hp hav
      rw [(from_iff hn h3 _).2 h2] at h
      cases h
  · intro h
    by_cases e : bl p = bl q
    · exact .inl e
    · right
      by_cases h0 : bl p = 0
      · rw [h0, from_zero]; rfl
      · cases hf : fromB bs 0 (bl p) (bl q)
        · rfl
        · obtain ⟨r, h1, h2, h3⟩ := T.av_to hp h0 ((from_iff hn h0 _).1 hf)
          rw [hinj r q h1 hq h2] at h3
          exact absurd h3 h
/-- What dominates is reached. -/
theorem TvE.dm_place (T : TvE (nxF bs) bs.length k bl par ah pl) (hn : 0 < bs.length) {a b : Nat} (ha : a < bs.length) (hb : b < bs.length) (h : dmB bs a b = true) : ∃ p q, p < k ∧ q < k ∧ bl p = a ∧ bl q = b := by
  have hre : fromB bs 0 (-1) b = true := by unfold dmB at h; rw [Bool.and_eq_true] at h; exact h.1
  have hr : Reach (nxF bs) 0 b := by
    rw [from_reachD] at hre; unfold reachF reachB at hre
    rw [decide_eq_true_iff, orderL_mem (nxF_lt bs) (by omega)] at hre
    exact hre
  obtain ⟨q, hq, -, hbq⟩ : ∃ q, q < k ∧ pl b = (q : Int) ∧ bl q = b := by
    have := (T.reach b hb).1 hr
    rcases T.plc b hb with h1 | h1
    · omega
    · exact h1
  rcases T.plc a ha with h1 | ⟨p, hp, -, hap⟩
  · exfalso
    have hna : ¬ Reach (nxF bs) 0 a := fun h2 => by have := (T.reach a ha).1 h2; omega
    have ha0 : a ≠ 0 := fun e => hna (by rw [e]; exact .refl)
    have hab : a ≠ b := fun e => hna (by rw [e]; exact hr)
    have key : ∀ z, Reach (nxF bs) 0 z → Reach (nxW (nxF bs) a) 0 z ∧ Reach (nxF bs) 0 z := fun z hz => by
      induction hz with
      | refl => exact ⟨.refl, .refl⟩
      | @step x y hx hy ih =>
        have h3 : Reach (nxF bs) 0 y := .step ih.2 hy
        exact ⟨.step ih.1 (nxW_mem.2 ⟨hy, fun e => hna (by rw [show a = y by omega]; exact h3)⟩), h3⟩
    unfold dmB at h
    rw [hre, (from_iff hn ha0 b).2 (key b hr).1] at h
    simp [hab] at h
  · exact ⟨p, q, hp, hq, hap, hbq⟩
/-- What the program's nearest are, block by block. -/
def nearI (bl D : Nat → Nat) (pl : Nat → Int) (b : Nat) : Int := if pl b ≤ 0 then -1 else (bl (D (pl b).toNat) : Int)
theorem TvE.near (T : TvE (nxF bs) bs.length k bl par ah pl) (hn : 0 < bs.length) (S : EarlyP 1 k (EdgeP (nxF bs) k bl) par s) (N : NearP k par s D) : NearB bs (nearI bl D pl) (fun b => (pl b).toNat) := by
  have hre : ∀ b, b < bs.length → (fromB bs 0 (-1) b = true ↔ 0 ≤ pl b) := fun b hb => by
    rw [from_reachD]; unfold reachF reachB
    rw [decide_eq_true_iff, orderL_mem (nxF_lt bs) (by omega)]
    exact T.reach b hb
  have hplc : ∀ b, b < bs.length → 0 ≤ pl b → ∃ q, q < k ∧ pl b = (q : Int) ∧ bl q = b := fun b hb h => by
    rcases T.plc b hb with h1 | h1
    · omega
    · exact h1
  have hinj : ∀ x y, x < k → y < k → bl x = bl y → x = y := fun x y hx hy e => by
    have h1 := (T.blk x hx).2
    have h2 := (T.blk y hy).2
    rw [e] at h1; omega
  have hp0 : pl 0 = 0 := by have := (T.blk 0 T.first.1).2; rw [T.first.2] at this; simpa using this
  refine ⟨fun b hb h => ?_, fun b hb hr h0 => ?_, fun a b ha hb h => ?_, fun a ha h => ?_, fun a b c h1 h2 => ?_, fun b hb hr => ?_, fun a b ha hb h => ?_⟩
  · unfold nearI
    rw [if_pos]
    rcases h with h | h
    · apply Classical.byContradiction
      intro h2
      rw [(hre b hb).2 (by omega)] at h; cases h
    · rw [h, hp0]; omega
  · obtain ⟨q, hq, hpq, hbq⟩ := hplc b hb ((hre b hb).1 hr)
    have hq0 : 0 < q := by
      rcases Nat.eq_zero_or_pos q with h | h
      · exact absurd (by rw [← hbq, h]; exact T.first.2) h0
      · exact h
    have hlt : D q < q := by have := near_le T.tree S N q hq0 hq; have := S.lt T.tree hq0 hq; omega
    have hv : nearI bl D pl b = (bl (D q) : Int) := by unfold nearI; rw [if_neg (by omega), hpq]; rfl
    refine ⟨bl (D q), (T.blk _ (by omega)).1, hv, fun e => ?_, ?_, fun c hc hcb h => ?_⟩
    · have := hinj (D q) q (by omega) hq (by rw [e, hbq]); omega
    · rw [← hbq]
      exact (T.dm_iff hn (by omega) hq).2 (near_sound T.tree S N q hq0 hq)
    · obtain ⟨p, q', hp, hq', hcp, hbq'⟩ := T.dm_place hn hc hb h
      rw [← hcp] at h ⊢
      rw [← hbq] at h
      have h2 := (T.dm_iff hn hp hq).1 h
      exact (T.dm_iff hn hp (by omega)).2 (dom_near T.tree S N hq0 hq h2 fun e => hcb (by rw [← hcp, e, hbq]))
  · obtain ⟨p, q, hp, hq, hap, hbq⟩ := T.dm_place hn ha hb h
    rw [← hap, ← hbq] at h ⊢
    have h2 := dom_le T.tree hq ((T.dm_iff hn hp hq).1 h)
    rw [(T.blk p hp).2, (T.blk q hq).2]
    exact ⟨by simpa using h2, fun e => by have : p = q := by simpa using e
                                          rw [this]⟩
  · unfold dmB; rw [h]; simp
  · have hr2 : fromB bs 0 (-1) c = true := by unfold dmB at h2; rw [Bool.and_eq_true] at h2; exact h2.1
    have hr1 : fromB bs 0 (-1) b = true := by unfold dmB at h1; rw [Bool.and_eq_true] at h1; exact h1.1
    have hlt : ∀ x, fromB bs 0 (-1) x = true → x < bs.length := fun x hx => by
      rw [from_reachD] at hx; unfold reachF reachB at hx
      rw [decide_eq_true_iff] at hx
      exact orderL_lt (nxF_lt bs) hx
    have hb := hlt b hr1
    have hc := hlt c hr2
    by_cases ha : a < bs.length
    · obtain ⟨p, q, hp, hq, hap, hbq⟩ := T.dm_place hn ha hb h1
      obtain ⟨q', r, hq', hr, hbq', hcr⟩ := T.dm_place hn hb hc h2
      rw [← hap, ← hbq] at h1
      rw [← hbq, ← hcr] at h2
      rw [← hap, ← hcr]
      exact (T.dm_iff hn hp hr).2 (dom_trans ((T.dm_iff hn hp hq).1 h1) ((T.dm_iff hn hq hr).1 h2))
    · exfalso
      unfold dmB at h1
      rw [hr1, Bool.true_and, Bool.or_eq_true, decide_eq_true_iff] at h1
      rcases h1 with h1 | h1
      · omega
      · have ha0 : a ≠ 0 := by omega
        have key : ∀ z, Reach (nxF bs) 0 z → Reach (nxW (nxF bs) a) 0 z := fun z hz => by
          induction hz with
          | refl => exact .refl
          | @step x y hx hy ih => exact .step ih (nxW_mem.2 ⟨hy, fun e => by have := nxF_lt bs _ _ hy; omega⟩)
        have hrb : Reach (nxF bs) 0 b := (T.reach b hb).2 ((hre b hb).1 hr1)
        rw [(from_iff hn ha0 b).2 (key b hrb)] at h1
        cases h1
  · obtain ⟨q, hq, hpq, hbq⟩ := hplc b hb ((hre b hb).1 hr)
    have h := (T.dm_iff hn T.first.1 hq).2 (fun hav => by
      have key : ∀ z, AvP (EdgeP (nxF bs) k bl) 0 z → False := fun z hz => by
        induction hz with
        | zero h => exact h rfl
        | step _ _ _ ih => exact ih
      exact key q hav)
    rwa [T.first.2, hbq] at h
  · obtain ⟨p, q, hp, hq, hap, hbq⟩ := T.dm_place hn ha hb h
    rw [hre a ha, ← hap, (T.blk p hp).2]; omega
theorem NearB.is_near {N : Nat → Int} {ord : Nat → Nat} (h : NearB bs N ord) {b : Nat} (hb : b < bs.length) : N b = nearD bs b := by
  have hall : ∀ a, isNear bs b a = true ↔ (a ≠ b ∧ dmB bs a b = true ∧ ∀ c, c < bs.length → c ≠ b → dmB bs c b = true → dmB bs c a = true) := fun a => by
    unfold isNear
    simp only [Bool.and_eq_true, decide_eq_true_iff, List.all_eq_true, List.mem_range, Bool.or_eq_true, Bool.not_eq_true', and_assoc]
    refine and_congr_right fun _ => and_congr_right fun _ => ⟨fun h c hc hcb hd => ?_, fun h c hc => ?_⟩
    · rcases h c hc with (h | h) | h
      · exact absurd h hcb
      · rw [hd] at h; cases h
      · exact h
    · by_cases hcb : c = b
      · exact .inl (.inl hcb)
      · cases hd : dmB bs c b
        · exact .inl (.inr rfl)
        · exact .inr (h c hc hcb hd)
  by_cases hr : fromB bs 0 (-1) b = true ∧ b ≠ 0
  · obtain ⟨a, ha, he, hab, hda, hall2⟩ := h.some b hb hr.1 hr.2
    rw [he]
    refine (nearK_of ((hall a).2 ⟨hab, hda, hall2⟩) (fun c hc hcn => ?_) bs.length ha (Nat.le_refl _)).symm
    obtain ⟨c1, c2, c3⟩ := (hall c).1 hcn
    have h1 := hall2 c hc c1 c2
    have h2 := c3 a ha hab hda
    have h3 := h.ord c a hc ha h1
    have h4 := h.ord a c ha hc h2
    exact h3.2 (by omega)
  · have hno : fromB bs 0 (-1) b = false ∨ b = 0 := by
      cases hf : fromB bs 0 (-1) b
      · exact .inl rfl
      · exact .inr (Classical.byContradiction fun h0 => hr ⟨hf, h0⟩)
    rw [h.none b hb hno]
    refine (nearK_none bs.length fun a ha => ?_).symm
    cases hi : isNear bs b a
    · rfl
    · obtain ⟨h1, h2, -⟩ := (hall a).1 hi
      have hrb : fromB bs 0 (-1) b = true := by unfold dmB at h2; rw [Bool.and_eq_true] at h2; exact h2.1
      rcases hno with h3 | h3
      · rw [h3] at hrb; cases hrb
      · subst h3
        have hra : dmB bs 0 a = true := h.first a ha (by
          -- what dominates is reached
          have := h2
          cases hfa : fromB bs 0 (-1) a
          · exfalso
            have h4 := h.ord a 0 ha hb h2
            -- block 0 dominates none that isn't reached: a can't dominate 0
            have ha0 : a ≠ 0 := h1
            unfold dmB at h2
            rw [hrb, (from_iff (by omega) ha0 0).2 .refl] at h2
            simp [ha0] at h2
          · rfl)
        have h3 := h.ord 0 a hb ha hra
        have h4 := h.ord a 0 ha hb h2
        exact absurd (h4.2 (by omega)) h1
theorem dm_reach {a b : Nat} (h : dmB bs a b = true) : fromB bs 0 (-1) b = true := by unfold dmB at h; rw [Bool.and_eq_true] at h; exact h.1
/-- What of those that dominate b is not yet marked ahead of y. -/
def upB (bs : List BlkD) (b : Nat) (y : Int) (a : Nat) : Bool := dmB bs a b && (decide (y < 0) || !dmB bs a y.toNat)
theorem NearB.up_step {N : Nat → Int} {ord : Nat → Nat} (h : NearB bs N ord) {a b q : Nat} (ha : a < bs.length) (hb : b < bs.length) (hq : q < bs.length) (hd : dmB bs q b = true) : (if a = q then true else upB bs b q a) = upB bs b (N q) a := by
  have hrq := h.reach q b hq hb hd
  by_cases hq0 : q = 0
  · rw [h.none q hq (.inr hq0)]
    unfold upB
    by_cases e : a = q
    · rw [if_pos e, e, hd]; simp
    · rw [if_neg e]
      have hno : dmB bs a q = false := by
        cases hdq : dmB bs a q
        · rfl
        · have h1 := h.first a ha (h.reach a q ha hq hdq)
          have h2 := h.ord 0 a (by omega) ha h1
          have h3 := h.ord a q ha hq hdq
          rw [hq0] at h3
          exact absurd (by rw [hq0]; exact h3.2 (by omega)) e
      simp [hno]
  · obtain ⟨p, hp, he, hpq, hdp, hall⟩ := h.some q hq hrq hq0
    rw [he]
    unfold upB
    have h0 : decide (((p : Nat) : Int) < 0) = false := decide_eq_false (by omega)
    have h0' : decide (((q : Nat) : Int) < 0) = false := decide_eq_false (by omega)
    rw [h0, h0', Int.toNat_natCast, Int.toNat_natCast]
    by_cases e : a = q
    · rw [if_pos e, e, hd]
      have hno : dmB bs q p = false := by
        cases hdq : dmB bs q p
        · rfl
        · have h1 := h.ord q p hq hp hdq
          have h2 := h.ord p q hp hq hdp
          exact absurd (h2.2 (by omega)) hpq
      simp [hno]
    · rw [if_neg e]
      have : dmB bs a q = dmB bs a p := by
        cases hdq : dmB bs a q
        · cases hdp2 : dmB bs a p
          · rfl
          · rw [h.trans a p q hdp2 hdp] at hdq; cases hdq
        · exact (hall a ha e hdq).symm
      rw [this]
theorem NearB.up_less {N : Nat → Int} {ord : Nat → Nat} (h : NearB bs N ord) {b q : Nat} (hb : b < bs.length) (hq : q < bs.length) (hd : dmB bs q b = true) : N q = -1 ∨ ∃ p, p < bs.length ∧ N q = (p : Int) ∧ dmB bs p b = true ∧ ord p < ord q := by
  by_cases hq0 : q = 0
  · exact .inl (h.none q hq (.inr hq0))
  · obtain ⟨p, hp, he, hpq, hdp, hall⟩ := h.some q hq (h.reach q b hq hb hd) hq0
    refine .inr ⟨p, hp, he, h.trans p q b hdp hd, ?_⟩
    have h2 := h.ord p q hp hq hdp
    have : ord p ≠ ord q := fun e => hpq (h2.2 e)
    omega
end Go.Proofs.Ytflbooopgjgkbaa

/- A row of the call's own as a list. -/
namespace Go.Proofs.Ytflbooopgjgkbaa
open Go.ChangeShapes Go.WideShapes Go.RowKit Go.Deep
set_option linter.unusedVariables false

theorem sl_of_row {w : World} {H n : Nat} {F : Nat → Int} (h : w.rowIs H 3 n (fun b => .int .i64 (F b))) (hn : n ≤ 1000000) (h64 : ∀ b, b < n → I64 (F b)) : SL w 1 RInt (some ⟨H, 0, none⟩) n ((List.range n).map F) := by
  refine ⟨by simp, ⟨by unfold maxLen; omega, fun e => by cases e⟩, fun _ => ⟨H, 0, rfl, fun i x hi => ?_⟩⟩
  obtain ⟨rfl, hl⟩ := map_range_at _ hi
  rw [Nat.mul_one, Nat.zero_add]
  exact ⟨h.cell hl, h64 i hl⟩
theorem NearB.near_lt {bs : List BlkD} {N : Nat → Int} {ord : Nat → Nat} (h : NearB bs N ord) {b : Nat} (hb : b < bs.length) : -1 ≤ N b ∧ N b < bs.length := by
  by_cases h1 : fromB bs 0 (-1) b = false ∨ b = 0
  · rw [h.none b hb h1]; omega
  · obtain ⟨a, ha, he, -⟩ := h.some b hb (by cases hf : fromB bs 0 (-1) b; exact absurd (.inl hf) h1; rfl) (fun e => h1 (.inr e))
    omega
end Go.Proofs.Ytflbooopgjgkbaa

/- The walk of LiveStays. -/
namespace Go.Proofs.Ytflbooopgjgkbaa
open Go.ChangeShapes Go.WideShapes Go.RowKit Go.Deep
set_option linter.unusedVariables false

/-- What is told when nothing is amiss. -/
theorem ToldLive.ok {m : List FunD} {k : Nat} {f : FunD} {w w' : World} {va vb ve : Value} (hp : Proper m) (hf : m[k]? = some f)
    (h : (va = .slice none 0 0 ∧ vb = .slice none 0 0 ∧ ((¬ Proper m ∧ ErrAt w' ve (modE m)) ∨ (Proper m ∧ ¬ (0 ≤ (k : Int) ∧ (k : Int) < m.length) ∧ ve = .iface 94 (.int .i64 1)))) ∨
     (Proper m ∧ ve = .nilIface ∧ ∃ (k2 : Nat) (f : FunD) (G3 G4 : Nat) (A E : Nat → Nat → Bool), (k : Int) = (k2 : Int) ∧ m[k2]? = some f ∧ va = .slice (some ⟨G3, 0, none⟩) f.blocks.length f.blocks.length ∧ vb = .slice (some ⟨G4, 0, none⟩) f.blocks.length f.blocks.length ∧ w.heap.size ≤ G3 ∧ G3 + f.blocks.length < G4 ∧
       BG1 w' G3 f.blocks.length f.regs.length A ∧ BG1 w' G4 f.blocks.length f.regs.length E ∧ (∀ b r, A b r = true ↔ Want f.blocks false b r) ∧ (∀ b r, E b r = true ↔ Want f.blocks true b r) ∧ LvOk f)) :
    ∃ (G3 G4 : Nat) (A E : Nat → Nat → Bool), ve = .nilIface ∧ va = .slice (some ⟨G3, 0, none⟩) f.blocks.length f.blocks.length ∧ vb = .slice (some ⟨G4, 0, none⟩) f.blocks.length f.blocks.length ∧ w.heap.size ≤ G3 ∧ G3 + f.blocks.length < G4 ∧
       BG1 w' G3 f.blocks.length f.regs.length A ∧ BG1 w' G4 f.blocks.length f.regs.length E ∧ (∀ b r, A b r = true ↔ Want f.blocks false b r) ∧ (∀ b r, E b r = true ↔ Want f.blocks true b r) ∧ LvOk f := by
  have hkl := (List.getElem?_eq_some_iff.1 hf).1
  rcases h with ⟨-, -, h⟩ | ⟨-, h0, k2, f2, G3, G4, A, E, h2, h3, h4⟩
  · exfalso
    rcases h with ⟨h4, _⟩ | ⟨_, h4, _⟩
    · exact h4 hp
    · exact h4 ⟨by omega, by omega⟩
  · obtain rfl : k = k2 := by omega
    obtain rfl : f = f2 := Option.some.inj (hf.symm.trans h3)
    exact ⟨G3, G4, A, E, h0, h4⟩
theorem ToldCt.ok {m : List FunD} {k : Nat} {f : FunD} {w w' : World} {vc ve : Value} (hp : Proper m) (hf : m[k]? = some f)
    (h : (vc = .slice none 0 0 ∧ ((¬ Proper m ∧ ErrAt w' ve (modE m)) ∨ (Proper m ∧ ¬ (0 ≤ (k : Int) ∧ (k : Int) < m.length) ∧ ve = .iface 94 (.int .i64 1)))) ∨
     (Proper m ∧ ve = .nilIface ∧ ∃ (k2 : Nat) (f : FunD) (G : Nat), (k : Int) = (k2 : Int) ∧ m[k2]? = some f ∧ vc = .slice (some ⟨G, 0, none⟩) f.regs.length f.regs.length ∧ w.heap.size ≤ G ∧ w'.rowIs G 3 f.regs.length (fun r => .int .i64 (ctF f.blocks f.blocks.length r : Int)) ∧ LvOk f)) :
    ∃ G, ve = .nilIface ∧ vc = .slice (some ⟨G, 0, none⟩) f.regs.length f.regs.length ∧ w.heap.size ≤ G ∧ w'.rowIs G 3 f.regs.length (fun r => .int .i64 (ctF f.blocks f.blocks.length r : Int)) := by
  have hkl := (List.getElem?_eq_some_iff.1 hf).1
  rcases h with ⟨-, h⟩ | ⟨-, h0, k2, f2, G, h2, h3, h4, h5, h6, -⟩
  · exfalso
    rcases h with ⟨h4, _⟩ | ⟨_, h4, _⟩
    · exact h4 hp
    · exact h4 ⟨by omega, by omega⟩
  · obtain rfl : k = k2 := by omega
    obtain rfl : f = f2 := Option.some.inj (hf.symm.trans h3)
    exact ⟨G, h0, h4, h5, h6⟩
/-- Whether something is amiss. -/
def BadL (m : List FunD) (n : Int) : Prop := ¬ (Proper m ∧ 0 ≤ n ∧ n < m.length)
theorem ToldLive.bad {m : List FunD} {n : Int} {w : World} {e : Ending} {w' : World} (hb : BadL m n) (h : ToldLive m n w e w') : (∃ t x, e = .returned (.tuple #[.slice none 0 0, .slice none 0 0, .iface t x])) ∧ Below w.heap.size w w' := by
  obtain ⟨⟨va, vb, ve, rfl, h⟩, h2⟩ := h
  refine ⟨?_, h2⟩
  rcases h with ⟨rfl, rfl, h⟩ | ⟨hp, -, k2, f2, G3, G4, A, E, h2, h3, -⟩
  · rcases h with ⟨h1, h3⟩ | ⟨_, _, rfl⟩
    · obtain ⟨t, x, rfl⟩ := err_form h3 h1
      exact ⟨t, x, rfl⟩
    · exact ⟨_, _, rfl⟩
  · exact absurd ⟨hp, by omega, by have := (List.getElem?_eq_some_iff.1 h3).1; omega⟩ hb
theorem ToldCt.bad {m : List FunD} {n : Int} {w : World} {e : Ending} {w' : World} (hb : BadL m n) (h : ToldCt m n w e w') : (∃ t x, e = .returned (.tuple #[.slice none 0 0, .iface t x])) ∧ Below w.heap.size w w' := by
  obtain ⟨⟨vc, ve, rfl, h⟩, h2⟩ := h
  refine ⟨?_, h2⟩
  rcases h with ⟨rfl, h⟩ | ⟨hp, -, k2, f2, G, h2, h3, -⟩
  · rcases h with ⟨h1, h3⟩ | ⟨_, _, rfl⟩
    · obtain ⟨t, x, rfl⟩ := err_form h3 h1
      exact ⟨t, x, rfl⟩
    · exact ⟨_, _, rfl⟩
  · exact absurd ⟨hp, by omega, by have := (List.getElem?_eq_some_iff.1 h3).1; omega⟩ hb

set_option maxRecDepth 100000 in
set_option maxHeartbeats 16000000 in
theorem liveStays_walk (m : List FunD) (n : Int) (v : Value) (w : World) (hv : VMod w v m) :
    Calls Try.prog 6 #[v, .int .i64 n] w fun e w' => e = .returned (.bool true) ∧ Below w.heap.size w w' := by
  have hv0 := hv
  obtain ⟨Am, cm, rfl, hm⟩ := hv
  have HV := Lib.hid hv0
  clear hm hv0
  go_enter Try.func6, Try.ntmps6
  go_upto_region 1 with fail
  obtain ⟨w1, hw1, hs1, hk1, hbel1, hc1, -⟩ := named w #[.slice Am m.length cm] 38
  rw [← hw1]
  have c0 : w1.cell? ⟨w.heap.size, 0, none⟩ = some (.slice Am m.length cm) := hc1 0 _ rfl
  have HB1 := Lib.hid hbel1
  have HS1 : Hid (w1.heap.size = w.heap.size + 1) := Lib.hid hs1
  obtain ⟨N, hN⟩ : ∃ N, N = w.heap.size := ⟨_, rfl⟩
  have HN := Lib.hid hN
  rw [← hN] at c0 ⊢
  clear hw1 hs1 hk1 hc1 hbel1 hN
  go_wp2_with fail
  refine (up8_any w1).mono ?_
  rintro e w2 ⟨rfl, hb2⟩
  have c0 := kept_of_below hb2 _ _ c0
  have HB2 : Hid (Below w.heap.size w w2) := Lib.hid (HB1.out.trans (hb2.mono (by have := HS1.out; omega)))
  clear hb2
  go_wp2_with fail
  refine (small_any m _ w2 (VMod.keep (kept_of_below HB2.out) HV.out)).mono ?_
  rintro e w3 ⟨⟨bs, rfl, hsm⟩, hb3⟩
  have c0 := kept_of_below hb3 _ _ c0
  have HB3 : Hid (Below w.heap.size w w3) := Lib.hid (HB2.out.trans (hb3.mono HB2.out.size))
  cases bs
  · clear hb3 hsm
    go_wp2_with fail
    go_ret
    exact ⟨rfl, HB3.out⟩
  · have HSM := Lib.hid (hsm rfl)
    clear hb3 hsm
    go_wp2_with fail
    refine (copy_any m _ w3 (VMod.keep (kept_of_below HB3.out) HV.out) HSM.out).mono ?_
    rintro e w4 ⟨⟨r, rfl, A1, c1, rfl, hcp⟩, hb4⟩
    have c0 := kept_of_below hb4 _ _ c0
    have HB4 : Hid (Below w.heap.size w w4) := Lib.hid (HB3.out.trans (hb4.mono HB3.out.size))
    have HCP : Hid (SL w4 4 RFun A1 c1 m) := Lib.hid (SL.imp RFunB.plain hcp)
    clear hb4 hcp
    go_upto_region 6 with fail
    obtain ⟨w5, hw5, hs5, hk5, hb5, hc5, -⟩ := named w4 #[.slice A1 m.length c1] 38
    rw [← hw5]
    obtain ⟨O, hO⟩ : ∃ O, O = w4.heap.size := ⟨_, rfl⟩
    have o0 : w5.cell? ⟨w4.heap.size, 0, none⟩ = some (.slice A1 m.length c1) := hc5 0 _ rfl
    rw [← hO] at o0 ⊢
    have c0 := hk5 _ _ c0
    have HB5 : Hid (Below w.heap.size w w5) := Lib.hid (HB4.out.trans (hb5.mono HB4.out.size))
    have HVO : Hid (VMod w5 (.agg #[.slice A1 m.length c1]) m) := Lib.hid ⟨A1, c1, rfl, SFuns.keep hk5 HCP.out⟩
    have HCC : Hid (w5.cell? ⟨N, 0, none⟩ = some (.slice Am m.length cm) ∧ w5.cell? ⟨O, 0, none⟩ = some (.slice A1 m.length c1)) := Lib.hid ⟨c0, o0⟩
    have hSAME : ∀ W, Below w5.heap.size w5 W → Calls Try.prog 26 #[.agg #[.slice A1 m.length c1], .agg #[.slice Am m.length cm]] W fun e w' => e = .returned (.bool true) ∧ Below W.heap.size W w' := fun W hW => by
      have h := same_any m m (.agg #[.slice A1 m.length c1]) (.agg #[.slice Am m.length cm]) W (VMod.keep (kept_of_below hW) HVO.out) (VMod.keep (kept_of_below (HB5.out.trans (hW.mono HB5.out.size))) HV.out)
      rw [show same m m = true from same_yes rfl] at h
      exact h
    have HSAME := Lib.hid hSAME
    clear hw5 hs5 hk5 hb5 hc5 hO hSAME HCP
    by_cases hbad : BadL m n
    · have HBAD := Lib.hid hbad
      clear hbad
      go_wp2_with fail
      refine (live_any m n _ w5 HVO.out HSM.out).mono ?_
      rintro e w6 hL
      obtain ⟨⟨t1, x1, rfl⟩, hb6⟩ := hL.bad HBAD.out
      have c0 := kept_of_below hb6 _ _ c0
      have o0 := kept_of_below hb6 _ _ o0
      have HB6 : Hid (Below w5.heap.size w5 w6) := Lib.hid hb6
      clear hL hb6
      go_wp2_with fail
      refine (count_any m n _ w6 (VMod.keep (kept_of_below HB6.out) HVO.out) HSM.out).mono ?_
      rintro e w7 hC
      obtain ⟨⟨t2, x2, rfl⟩, hb7⟩ := hC.bad HBAD.out
      have c0 := kept_of_below hb7 _ _ c0
      have o0 := kept_of_below hb7 _ _ o0
      have HB7 : Hid (Below w5.heap.size w5 w7) := Lib.hid (HB6.out.trans (hb7.mono HB6.out.size))
      clear hC hb7
      go_wp2_with (at_builtin; refine wpList_append_copy rfl _ _ rfl _ _ _ _ [] rfl rfl (heap_alloc_new w7 _) sl_nil8 rfl (by simp) ?_)
      intro A' c' w8 hsl hgrow hown hloc
      have hfr8 : FrX (fun _ => False) w7 w8 := ((FrX.refl (fun _ => False) w7).alloc _).grown hgrow (fun y hy => by cases hy; exact .inr (Nat.le_refl _))
      have HB8 : Hid (Below w5.heap.size w5 w8) := Lib.hid (HB7.out.trans (hfr8.below HB7.out.size (fun _ h => h.elim)))
      have HW8 : Hid (SL w8 1 RInt A' c' []) := Lib.hid (SL.imp (fun b o x h => h.2) hsl)
      have c0 := kept_of_below HB8.out _ _ HCC.out.1
      have o0 := kept_of_below HB8.out _ _ HCC.out.2
      clear hsl hgrow hown hloc hfr8
      go_wp2_with fail
      go_loopw [14] (fun s14 wq => s14 = .int .i64 0 ∧ wq = w8) (fun _ _ => 0)
      case atStart => exact ⟨rfl, rfl⟩
      case round =>
        obtain ⟨rfl, hww⟩ := hrel
        subst hww
        go_wp2_with fail
        obtain ⟨w8, rfl⟩ : ∃ w8, w8 = wr := ⟨_, rfl⟩
        go_loopw [16] (fun s16 wq => s16 = .int .i64 0 ∧ wq = w8) (fun _ _ => 0)
        case atStart => exact ⟨rfl, rfl⟩
        case round =>
          obtain ⟨rfl, hww⟩ := hrel
          subst hww
          go_wp2_with fail
          refine (live_any m n _ wr (VMod.keep (kept_of_below HB8.out) HVO.out) HSM.out).mono ?_
          rintro e w9 hL
          obtain ⟨⟨t3, x3, rfl⟩, hb9⟩ := hL.bad HBAD.out
          have c0 := kept_of_below hb9 _ _ c0
          have o0 := kept_of_below hb9 _ _ o0
          have HB9 : Hid (Below w5.heap.size w5 w9) := Lib.hid (HB8.out.trans (hb9.mono HB8.out.size))
          have HW9 : Hid (SL w9 1 RInt A' c' []) := Lib.hid (SInts.keep (kept_of_below hb9) HW8.out)
          clear hL hb9
          go_wp2_with fail
          refine (count_any m n _ w9 (VMod.keep (kept_of_below HB9.out) HVO.out) HSM.out).mono ?_
          rintro e wa hC
          obtain ⟨⟨t4, x4, rfl⟩, hba⟩ := hC.bad HBAD.out
          have c0 := kept_of_below hba _ _ c0
          have o0 := kept_of_below hba _ _ o0
          have HBA : Hid (Below w5.heap.size w5 wa) := Lib.hid (HB9.out.trans (hba.mono HB9.out.size))
          have HWA : Hid (SL wa 1 RInt A' c' []) := Lib.hid (SInts.keep (kept_of_below hba) HW9.out)
          clear hC hba
          go_upto_region 22 with fail
          have hS : ∀ W, Below wa.heap.size wa W → W.cell? ⟨O, 0, none⟩ = some (.slice A1 m.length c1) ∧ W.cell? ⟨N, 0, none⟩ = some (.slice Am m.length cm) := fun W hW => ⟨kept_of_below hW _ _ o0, kept_of_below hW _ _ c0⟩
          have hdz : decide (([] : List Int) = ([] : List Int)) = true := decide_eq_true rfl
          clear c0 o0
          go_region_held3 (fun w' => w'.cell? ⟨O, 0, none⟩ = some (.slice A1 m.length c1) ∧ w'.cell? ⟨N, 0, none⟩ = some (.slice Am m.length cm))
            (first
              | exact hS _ HBI.out
              | exact hS _ HBS.out
              | (refine hS _ ?_; repeat (first | exact Below.refl _ _ | refine Below.drew ?_)))
            (first
              | (go_at_call 26; refine (HSAME.out _ HBA.out.drew).mono ?_; rintro e wb ⟨rfl, hbb⟩; have HBS := Lib.hid ((Below.refl wa.heap.size wa).drew.trans hbb))
              | (go_at_call 14; refine (sameInts_any ([] : List Int) ([] : List Int) _ _ wb ⟨none, 0, rfl, sl_nil8⟩ ⟨A', c', rfl, SInts.keep (kept_of_below HBS.out) HWA.out⟩).mono ?_; rintro e wc ⟨rfl, nq, rfl⟩; have HBI := Lib.hid (below_drewN HBS.out nq)))
          try rw [hdz]
          go_wp2_with fail
          go_ret
          exact ⟨rfl, HB5.out.trans ((HBA.out.trans (HBI.out.mono HBA.out.size)).mono HB5.out.size)⟩
    · have hgood : Proper m ∧ 0 ≤ n ∧ n < m.length := Classical.byContradiction fun h => hbad h
      obtain ⟨k, rfl⟩ : ∃ k : Nat, n = (k : Int) := ⟨n.toNat, by omega⟩
      obtain ⟨f, hf⟩ : ∃ f, m[k]? = some f := ⟨_, List.getElem?_eq_getElem (by omega)⟩
      have HF := Lib.hid hf
      have HP := Lib.hid hgood.1
      clear hbad hgood hf
      go_wp2_with fail
      refine (live_any m k _ w5 HVO.out HSM.out).mono ?_
      rintro e w6 ⟨⟨va, vb, ve, rfl, hL⟩, hb6⟩
      obtain ⟨G3, G4, A, E, rfl, rfl, rfl, hG3, hG34, hA, hE, -, -, hok⟩ := ToldLive.ok HP.out HF.out hL
      have c0 := kept_of_below hb6 _ _ c0
      have o0 := kept_of_below hb6 _ _ o0
      have HB6 : Hid (Below w5.heap.size w5 w6) := Lib.hid hb6
      have HA6 := Lib.hid hA
      have hnb := hok.nb
      have hnr := hok.nr
      have HCF := Lib.hid (fun r => ctF_le hok f.blocks.length r)
      have HG3 : Hid (w5.heap.size ≤ G3 ∧ G3 + f.blocks.length < w6.heap.size) := Lib.hid ⟨hG3, by
        have := hE.row.lt; omega⟩
      clear hL hb6 hA hE hok hG3 hG34
      go_wp2_with fail
      refine (count_any m k _ w6 (VMod.keep (kept_of_below HB6.out) HVO.out) HSM.out).mono ?_
      rintro e w7 ⟨⟨vc, vf, rfl, hC⟩, hb7⟩
      obtain ⟨G, rfl, rfl, hG, hct⟩ := ToldCt.ok HP.out HF.out hC
      have c0 := kept_of_below hb7 _ _ c0
      have o0 := kept_of_below hb7 _ _ o0
      have HB7 : Hid (Below w5.heap.size w5 w7) := Lib.hid (HB6.out.trans (hb7.mono HB6.out.size))
      have HA7 := Lib.hid (HA6.out.of_blocks (w' := w7) (fun y h1 h2 => hb7.block y (by have := HG3.out; omega)))
      have HCT := Lib.hid hct
      have HG : Hid (w6.heap.size ≤ G ∧ G < w7.heap.size ∧ w6.heap.size ≤ w7.heap.size) := Lib.hid ⟨hG, hct.lt, hb7.size⟩
      obtain ⟨nb, hnbe⟩ : ∃ nb, f.blocks.length = nb := ⟨_, rfl⟩
      obtain ⟨R, hRe⟩ : ∃ R, f.regs.length = R := ⟨_, rfl⟩
      have HNB := Lib.hid hnbe
      have HRE := Lib.hid hRe
      rw [hnbe] at hnb HA7 HG3 ⊢
      rw [hRe] at hnr HA7 HCT ⊢
      have HSL : Hid (∀ W, W.heap[G]? = w7.heap[G]? → SL W 1 RInt (some ⟨G, 0, none⟩) R ((List.range R).map fun r => (ctF f.blocks f.blocks.length r : Int))) := Lib.hid (fun W hW => sl_of_row (HCT.out.of_block hW) (by omega) (fun b hb => by have := HCF.out b; unfold I64; omega))
      have hll : ((List.range R).map fun r => (ctF f.blocks f.blocks.length r : Int)).length = R := by rw [List.length_map, List.length_range]
      obtain ⟨xs, hxs⟩ : ∃ xs, xs = (List.range R).map fun r => (ctF f.blocks f.blocks.length r : Int) := ⟨_, rfl⟩
      rw [← hxs] at hll HSL
      have HLL := Lib.hid hll
      have HXS := Lib.hid hxs
      clear hC hb7 hct hG hnbe hRe hxs HA6
      go_wp2_with (at_builtin; refine wpList_append_copy rfl _ _ rfl _ _ _ _ xs rfl rfl (heap_alloc_new w7 _) (HSL.out _ (Below.heap_alloc _ _ _ (by have := HG.out; omega))) HLL.out.symm (by rw [HLL.out]; omega) ?_)
      intro A' c' w8 hsl hgrow hown hloc
      have hfr8 : FrX (fun _ => False) w7 w8 := ((FrX.refl (fun _ => False) w7).alloc _).grown hgrow (fun y hy => by cases hy; exact .inr (Nat.le_refl _))
      have HB8 : Hid (Below w5.heap.size w5 w8) := Lib.hid (HB7.out.trans (hfr8.below HB7.out.size (fun _ h => h.elim)))
      have HW8 : Hid (SL w8 1 (RIntB (fun b => w7.heap.size ≤ b)) A' c' xs) := Lib.hid (SL.imp (fun b o x h => ⟨by have h1 := h.1; simp at h1; omega, h.2⟩) hsl)
      have HA8 := Lib.hid (HA7.out.of_blocks (w' := w8) (fun y h1 h2 => hfr8.block y (by have := HG3.out; have := HG.out; omega) id))
      have HR8 : Hid (∃ F : Nat → Int, w8.rowIs G 3 R (fun r => .int .i64 (F r))) := Lib.hid ⟨_, HCT.out.of_block (hfr8.block G HG.out.2.1 id)⟩
      clear hsl hgrow hown hloc hfr8 c0 o0 hll HA7 HCT
      go_wp2_with fail
      go_loopw [14] (fun s14 wq => ∃ (i : Nat) (M : Nat → Nat → Bool), i ≤ nb ∧ s14 = .int .i64 (i : Int) ∧ BG1 wq G3 nb R M ∧ FrX (fun b => w5.heap.size ≤ b ∧ b < w7.heap.size) w8 wq ∧ wq.heap[G]? = w8.heap[G]?) (fun s14 _ => nb - (intOf s14).toNat)
      case atStart => exact ⟨0, _, Nat.zero_le _, rfl, HA8.out, FrX.refl _ _, rfl⟩
      case round =>
        obtain ⟨i, M, hi, rfl, hM, hfr, hgb⟩ := hrel
        obtain ⟨wL, rfl⟩ : ∃ wL, wL = wr := ⟨_, rfl⟩
        have HM := Lib.hid hM
        have HFR := Lib.hid hfr
        have HGB := Lib.hid hgb
        by_cases hil : i < nb
        · have x1 := hM.row.cell hil
          have hi0 : (0 : Int) ≤ i := by omega
          have hi1 : (i : Int) < nb := by omega
          clear hM hfr hgb
          go_wp2_with fail
          clear x1
          go_loopw [15] (fun s15 wq => ∃ (r : Nat) (M : Nat → Nat → Bool), r ≤ R ∧ s15 = .int .i64 (r : Int) ∧ BG1 wq G3 nb R M ∧ FrX (fun b => w5.heap.size ≤ b ∧ b < w7.heap.size) w8 wq ∧ wq.heap[G]? = w8.heap[G]?) (fun s15 _ => R - (intOf s15).toNat)
          case atStart => exact ⟨0, M, Nat.zero_le _, rfl, HM.out, HFR.out, HGB.out⟩
          case round =>
            obtain ⟨r, M2, hr, rfl, hM, hfr, hgb⟩ := hrel
            have HMR := Lib.hid hM
            have HFRR := Lib.hid hfr
            have HGBR := Lib.hid hgb
            have x1 := hM.row.cell hil
            by_cases hrl : r < R
            · obtain ⟨-, x2, x3⟩ := hM.at_ hil hrl
              have hr0 : (0 : Int) ≤ r := by omega
              have hr1 : (r : Int) < R := by omega
              have HMN := Lib.hid (hM.set i r hil)
              have HFN := Lib.hid (hfr.setCell (p := ⟨G3 + 1 + i, r, none⟩) (.inl (by have := HG3.out; have := HG.out; show w5.heap.size ≤ G3 + 1 + i ∧ G3 + 1 + i < w7.heap.size; omega)) (.bool true))
              have HGN : Hid ((wr.setCell ⟨G3 + 1 + i, r, none⟩ (.bool true)).heap[G]? = w8.heap[G]?) := Lib.hid ((Below.heap_setCell _ _ _ _ (by have := HG3.out; have := HG.out; show G ≠ G3 + 1 + i; omega)).trans hgb)
              clear hM hfr hgb
              go_wp2_with fail
              go_roundw
              case rel => exact ⟨r + 1, _, by omega, by go_num, HMN.out, HFN.out, HGN.out⟩
              case measure => simp [intOf]; omega
            · obtain rfl : r = R := by omega
              clear hM hfr hgb
              go_wp2_with fail
              go_roundw
              case rel => exact ⟨i + 1, M2, by omega, by go_num, HMR.out, HFRR.out, HGBR.out⟩
              case measure => simp [intOf]; omega
        · obtain ⟨F0, hF0⟩ := HR8.out
          have HR9 := Lib.hid (hF0.of_block hgb)
          clear hM hfr hgb hF0
          go_wp2_with fail
          go_loopw [16] (fun s16 wq => ∃ (r : Nat) (F : Nat → Int), r ≤ R ∧ s16 = .int .i64 (r : Int) ∧ wq.rowIs G 3 R (fun r => .int .i64 (F r)) ∧ FrX (fun b => w5.heap.size ≤ b ∧ b < w7.heap.size) w8 wq) (fun s16 _ => R - (intOf s16).toNat)
          case atStart => exact ⟨0, F0, Nat.zero_le _, rfl, HR9.out, HFR.out⟩
          case round =>
            obtain ⟨r, F, hr, rfl, hR, hfr⟩ := hrel
            obtain ⟨wz, rfl⟩ : ∃ wz, wz = wr := ⟨_, rfl⟩
            have HRR := Lib.hid hR
            have HFZ := Lib.hid hfr
            by_cases hrl : r < R
            · have x0 := hR.cell hrl
              have xf := hR.frozen r
              have hr0 : (0 : Int) ≤ r := by omega
              have hr1 : (r : Int) < R := by omega
              have HRN : Hid ((wz.setCell ⟨G, r, none⟩ (.int .i64 (-1))).rowIs G 3 R (fun x => .int .i64 ((fun x => if x = r then -1 else F x) x))) := Lib.hid ((hR.set r _).congr fun x _ => by by_cases e : x = r <;> simp [e])
              have HFN := Lib.hid (hfr.setCell (p := ⟨G, r, none⟩) (.inl (by have := HG3.out; have := HG.out; show w5.heap.size ≤ G ∧ G < w7.heap.size; omega)) (.int .i64 (-1)))
              clear hR hfr
              go_wp2_with fail
              go_roundw
              case rel => exact ⟨r + 1, _, by omega, by go_num, HRN.out, HFN.out⟩
              case measure => simp [intOf]; omega
            · have hbz : Below w5.heap.size w5 wz := HB8.out.trans (hfr.below HB8.out.size (fun _ h => h.1))
              have HBZ := Lib.hid hbz
              have c0 := kept_of_below hbz _ _ HCC.out.1
              have o0 := kept_of_below hbz _ _ HCC.out.2
              have HWZ : Hid (SL wz 1 RInt A' c' xs) := Lib.hid (SL.imp RIntB.plain (SIntsB.go (B := fun b => w7.heap.size ≤ b) (B' := fun b => w7.heap.size ≤ b) (fun a v hb ha => (World.cell?_of_block (hfr.block a.block (block_lt_of_cell ha) (fun e => by have := e.2; omega))).trans ha) (fun _ h => h) HW8.out))
              clear hR hfr hbz
              go_wp2_with fail
              refine (live_any m k _ wz (VMod.keep (kept_of_below HBZ.out) HVO.out) HSM.out).mono ?_
              rintro e w9 ⟨⟨va, vb, ve, rfl, hL⟩, hb9⟩
              obtain ⟨G5, G6, A5, E5, rfl, rfl, rfl, -⟩ := ToldLive.ok HP.out HF.out hL
              have c0 := kept_of_below hb9 _ _ c0
              have o0 := kept_of_below hb9 _ _ o0
              have HB9 : Hid (Below w5.heap.size w5 w9) := Lib.hid (HBZ.out.trans (hb9.mono HBZ.out.size))
              have HW9 : Hid (SL w9 1 RInt A' c' xs) := Lib.hid (SInts.keep (kept_of_below hb9) HWZ.out)
              rw [HNB.out]
              clear hL hb9
              go_wp2_with fail
              refine (count_any m k _ w9 (VMod.keep (kept_of_below HB9.out) HVO.out) HSM.out).mono ?_
              rintro e wa ⟨⟨vc, vf, rfl, hC⟩, hba⟩
              obtain ⟨G7, rfl, rfl, -, hct⟩ := ToldCt.ok HP.out HF.out hC
              rw [HRE.out] at hct ⊢
              have c0 := kept_of_below hba _ _ c0
              have o0 := kept_of_below hba _ _ o0
              have HBA : Hid (Below w5.heap.size w5 wa) := Lib.hid (HB9.out.trans (hba.mono HB9.out.size))
              have HWA : Hid (SL wa 1 RInt A' c' xs) := Lib.hid (SInts.keep (kept_of_below hba) HW9.out)
              have HZA : Hid (SL wa 1 RInt (some ⟨G7, 0, none⟩) R xs) := Lib.hid (by rw [HXS.out]; exact sl_of_row hct (by omega) (fun b hb => by have := HCF.out b; unfold I64; omega))
              clear hC hba hct
              go_upto_region 22 with fail
              have hS : ∀ W, Below wa.heap.size wa W → W.cell? ⟨O, 0, none⟩ = some (.slice A1 m.length c1) ∧ W.cell? ⟨N, 0, none⟩ = some (.slice Am m.length cm) := fun W hW => ⟨kept_of_below hW _ _ o0, kept_of_below hW _ _ c0⟩
              have hdz : decide (xs = xs) = true := decide_eq_true rfl
              clear c0 o0
              go_region_held3 (fun w' => w'.cell? ⟨O, 0, none⟩ = some (.slice A1 m.length c1) ∧ w'.cell? ⟨N, 0, none⟩ = some (.slice Am m.length cm))
                (first
                  | exact hS _ HBI.out
                  | exact hS _ HBS.out
                  | (refine hS _ ?_; repeat (first | exact Below.refl _ _ | refine Below.drew ?_)))
                (first
                  | (go_at_call 26; refine (HSAME.out _ HBA.out.drew).mono ?_; rintro e wb ⟨rfl, hbb⟩; have HBS := Lib.hid ((Below.refl wa.heap.size wa).drew.trans hbb))
                  | (go_at_call 14; refine (sameInts_any xs xs _ _ wb ⟨some ⟨G7, 0, none⟩, R, by rw [HLL.out], SInts.keep (kept_of_below HBS.out) HZA.out⟩ ⟨A', c', by rw [HLL.out], SInts.keep (kept_of_below HBS.out) HWA.out⟩).mono ?_; rintro e wc ⟨rfl, nq, rfl⟩; have HBI := Lib.hid (below_drewN HBS.out nq)))
              try rw [hdz]
              go_wp2_with fail
              go_ret
              exact ⟨rfl, HB5.out.trans ((HBA.out.trans (HBI.out.mono HBA.out.size)).mono HB5.out.size)⟩
end Go.Proofs.Ytflbooopgjgkbaa
