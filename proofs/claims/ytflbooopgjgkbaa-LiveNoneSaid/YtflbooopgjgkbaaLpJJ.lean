/- How blocks lead to one another, as the program holds it (ways); whether one dominates another. -/
import Derived.Test.YtflbooopgjgkbaaLpNJ
import Derived.Test.YtflbooopgjgkbaaLpMJ
import Derived.Deep.AppendLies
import Derived.OneCell
namespace Go.Proofs.Ytflbooopgjgkbaa
open Go.ChangeShapes Go.WideShapes Go.RowKit Go.Deep
set_option linter.unusedVariables false

/-- A function's ways, by their parts. -/
structure WyL (bs : List BlkD) (nm en : Nat → Int) (w : World) (Ao : Option Addr) (co Gn Ga G1 : Nat) (A2 : Option Addr) (c2 : Nat) : Prop where
  ord : SL w 1 RInt Ao co (zs (orderF bs))
  nxt : SL w 1 RRow (some ⟨Gn, 0, none⟩) bs.length ((List.range bs.length).map fun i => zs (nxF bs i))
  ahd : SL w 1 RRow (some ⟨Ga, 0, none⟩) bs.length ((List.range bs.length).map fun i => zs (raL bs bs.length i))
  num : ∀ b, b < bs.length → w.cell? ⟨G1, b, none⟩ = some (.int .i64 (nm b))
  ends : 0 < bs.length → ∃ g, A2 = some ⟨g, 0, none⟩ ∧ ∀ b, b < bs.length → w.cell? ⟨g, b, none⟩ = some (.int .i64 (en b))
  eq : NumE bs nm en
  few : bs.length ≤ 1000
def wyV (bs : List BlkD) (Ao : Option Addr) (co Gn Ga G1 : Nat) (A2 : Option Addr) (c2 : Nat) : Value :=
  .agg #[.slice Ao (orderF bs).length co, .slice (some ⟨Gn, 0, none⟩) bs.length bs.length, .slice (some ⟨Ga, 0, none⟩) bs.length bs.length, .slice (some ⟨G1, 0, none⟩) bs.length bs.length, .slice A2 bs.length c2]
theorem WyL.keep {bs : List BlkD} {nm en : Nat → Int} {w w' : World} {Ao : Option Addr} {co Gn Ga G1 : Nat} {A2 : Option Addr} {c2 : Nat} (hk : Kept w w') (h : WyL bs nm en w Ao co Gn Ga G1 A2 c2) : WyL bs nm en w' Ao co Gn Ga G1 A2 c2 :=
  ⟨SInts.keep hk h.ord, SL.keep hk (RRow.keep hk) h.nxt, SL.keep hk (RRow.keep hk) h.ahd, fun b hb => hk _ _ (h.num b hb), fun hp => by obtain ⟨g, h1, h2⟩ := h.ends hp; exact ⟨g, h1, fun b hb => hk _ _ (h2 b hb)⟩, h.eq, h.few⟩

set_option maxRecDepth 100000 in
set_option maxHeartbeats 4000000 in
theorem dominates_any (bs : List BlkD) (nm en : Nat → Int) (Ao : Option Addr) (co Gn Ga G1 : Nat) (A2 : Option Addr) (c2 : Nat) (w : World) (h : WyL bs nm en w Ao co Gn Ga G1 A2 c2) (a b : Nat) (ha : a < bs.length) (hb : b < bs.length) :
    Calls Try.prog 34 #[wyV bs Ao co Gn Ga G1 A2 c2, .int .i64 (a : Int), .int .i64 (b : Int)] w fun e w' => e = .returned (.bool (dmB bs a b)) ∧ Below w.heap.size w w' := by
  have hE := h.eq.eq a b ha hb
  obtain ⟨g, rfl, hg⟩ := h.ends (by omega)
  have c1 := h.num a ha
  have c2' := h.num b hb
  have c3 := hg a ha
  have hf := h.few
  obtain ⟨n, hn⟩ : ∃ n, bs.length = n := ⟨_, rfl⟩
  obtain ⟨ln, hln⟩ : ∃ ln, (orderF bs).length = ln := ⟨_, rfl⟩
  unfold wyV
  rw [hn] at ha hb hf ⊢
  rw [hln]
  have HE := Lib.hid hE
  clear h hE hg hn hln
  go_enter Try.func34, Try.ntmps34
  go_wp2_with fail
  obtain ⟨w1, hw1, hs1, hk1, hbel1, hc1, -⟩ := named w #[.slice Ao ln co, .slice (some ⟨Gn, 0, none⟩) n n, .slice (some ⟨Ga, 0, none⟩) n n, .slice (some ⟨G1, 0, none⟩) n n, .slice (some ⟨g, 0, none⟩) n c2] 70
  rw [← hw1]
  have d1 := hk1 _ _ c1
  have d2 := hk1 _ _ c2'
  have d3 := hk1 _ _ c3
  have b3 := hc1 3 _ rfl
  have b4 := hc1 4 _ rfl
  have HB1 := Lib.hid hbel1
  clear hw1 hs1 hk1 hc1 c1 c2' c3 hbel1
  by_cases hle : nm a ≤ nm b
  · have e1 : decide (nm b < en a) = dmB bs a b := by have h1 := HE.out; rw [decide_eq_true hle, Bool.true_and] at h1; exact h1
    have E1 := Lib.hid e1
    clear e1
    go_region
    all_goals go_wp2_with fail
    go_ret
    exact ⟨congrArg (fun v => Ending.returned (.bool v)) E1.out, HB1.out.drew⟩
  · have e1 : false = dmB bs a b := by have h1 := HE.out; rw [decide_eq_false hle, Bool.false_and] at h1; exact h1
    have E1 := Lib.hid e1
    clear e1
    go_region
    all_goals go_wp2_with fail
    go_ret
    exact ⟨congrArg (fun v => Ending.returned (.bool v)) E1.out, HB1.out.drew⟩
end Go.Proofs.Ytflbooopgjgkbaa

/- Which loops are in which: found head by head, inner ones first, with ways up that are cut short. Mathematics, no condition. -/
namespace Go.Proofs.Ytflbooopgjgkbaa
set_option linter.unusedVariables false

variable {bs : List BlkD} {ord : Nat → Nat}
/-- The head of the greatest loop, of those of S, that x is in; x itself, if it is in none. -/
def RtU (bs : List BlkD) (S : List Nat) (x r : Nat) : Prop := (x = r ∨ (r ∈ S ∧ lpB bs r x = true)) ∧ ∀ g ∈ S, g ≠ r → lpB bs g r = false
theorem RtU.same (N : NearB bs (nearD bs) ord) {S : List Nat} {x r r' : Nat} (h : RtU bs S x r) (k : RtU bs S x r') : r = r' := by
  apply Classical.byContradiction
  intro hne
  rcases h.1 with rfl | ⟨h1, h2⟩
  · rcases k.1 with rfl | ⟨k1, k2⟩
    · exact hne rfl
    · rw [h.2 r' k1 (fun e => hne e.symm)] at k2; cases k2
  · rcases k.1 with rfl | ⟨k1, k2⟩
    · rw [k.2 r h1 hne] at h2; cases h2
    · rcases lp_nest N h2 k2 with h3 | h3
      · rw [k.2 r h1 hne] at h3; cases h3
      · rw [h.2 r' k1 (fun e => hne e.symm)] at h3; cases h3
/-- From x up to y. -/
inductive UpR (up : Nat → Nat) : Nat → Nat → Prop
  | done {x : Nat} : up x = x → UpR up x x
  | step {x y : Nat} : up x ≠ x → UpR up (up x) y → UpR up x y
theorem UpR.top {up : Nat → Nat} {x y : Nat} (h : UpR up x y) : up y = y := by
  induction h with
  | done h => exact h
  | step _ _ ih => exact ih
theorem UpR.fun {up : Nat → Nat} {x y z : Nat} (h : UpR up x y) (k : UpR up x z) : y = z := by
  induction h with
  | done h =>
    cases k with
    | done _ => rfl
    | step h1 _ => exact absurd h h1
  | step h1 _ ih =>
    cases k with
    | done h2 => exact absurd h2 h1
    | step _ h3 => exact ih h3
/-- Between two heads. -/
structure UpS (bs : List BlkD) (S : List Nat) (up : Nat → Nat) : Prop where
  at_ : ∀ x, x < bs.length → (up x = x ∧ ∀ g ∈ S, g ≠ x → lpB bs g x = false) ∨ (up x ≠ x ∧ up x ∈ S ∧ lpB bs (up x) x = true)
/-- While h's loop is found; those of dl are done. -/
structure UpM (bs : List BlkD) (S : List Nat) (h : Nat) (dl : List Nat) (up : Nat → Nat) : Prop where
  at_ : ∀ x, x < bs.length → (up x = x ∧ (∀ g ∈ S, g ≠ x → lpB bs g x = false) ∧ x ∉ dl) ∨ (up x ≠ x ∧ up x ∈ S ∧ lpB bs (up x) x = true) ∨ (up x = h ∧ x ≠ h ∧ lpB bs h x = true ∧ ∃ r ∈ dl, RtU bs S x r)
  inn : ∀ r ∈ dl, r ≠ h ∧ lpB bs h r = true ∧ ∀ g ∈ S, g ≠ r → lpB bs g r = false
  nd : dl.Nodup
theorem UpS.start {S : List Nat} {up : Nat → Nat} (h : UpS bs S up) (b : Nat) : UpM bs S b [] up :=
  ⟨fun x hx => (h.at_ x hx).elim (fun k => .inl ⟨k.1, k.2, by simp⟩) (fun k => .inr (.inl k)), fun r hr => by simp at hr, by simp⟩
/-- h is in no loop that was found. -/
def NewH (bs : List BlkD) (S : List Nat) (h : Nat) : Prop := h < bs.length ∧ h ∉ S ∧ ∀ g ∈ S, lpB bs g h = false
variable {S dl : List Nat} {h : Nat} {up : Nat → Nat}
theorem UpM.rank (N : NearB bs (nearD bs) ord) (U : UpM bs S h dl up) {x : Nat} (hx : x < bs.length) (hne : up x ≠ x) : ord (up x) < ord x ∧ up x < bs.length := by
  rcases U.at_ x hx with h1 | ⟨h1, h2, h3⟩ | ⟨h1, h2, h3, h4⟩
  · exact absurd h1.1 hne
  · exact ⟨lp_ord N h3 (fun e => hne e.symm), hd_lt (lp_hd h3)⟩
  · rw [h1]; exact ⟨lp_ord N h3 h2, hd_lt (lp_hd h3)⟩
theorem RtU.upw (N : NearB bs (nearD bs) ord) {x z r : Nat} (hz : z ∈ S) (hl : lpB bs z x = true) (k : RtU bs S z r) : RtU bs S x r := by
  refine ⟨?_, k.2⟩
  rcases k.1 with rfl | ⟨k1, k2⟩
  · exact .inr ⟨hz, hl⟩
  · exact .inr ⟨k1, lp_trans N k2 hl⟩
theorem UpM.find (N : NearB bs (nearD bs) ord) (U : UpM bs S h dl up) (H : NewH bs S h) {x y : Nat} (k : UpR up x y) : x < bs.length →
    (RtU bs S x y ∧ y ∉ dl ∧ up y = y) ∨ (y = h ∧ x ≠ h ∧ ∃ r ∈ dl, RtU bs S x r) := by
  induction k with
  | @done x he =>
    intro hx
    rcases U.at_ x hx with h1 | ⟨h1, h2, h3⟩ | ⟨h1, h2, h3, h4⟩
    · exact .inl ⟨⟨.inl rfl, h1.2.1⟩, h1.2.2, he⟩
    · exact absurd he h1
    · exact absurd (he.symm.trans h1) h2
  | @step x y hne _ ih =>
    intro hx
    have hr := U.rank N hx hne
    rcases U.at_ x hx with h1 | ⟨h1, h2, h3⟩ | ⟨h1, h2, h3, h4⟩
    · exact absurd h1.1 hne
    · rcases ih hr.2 with ⟨k1, k2, k3⟩ | ⟨k1, k2, r, k3, k4⟩
      · exact .inl ⟨k1.upw N h2 h3, k2, k3⟩
      · refine .inr ⟨k1, fun e => ?_, r, k3, k4.upw N h2 h3⟩
        rw [e] at h3 h2; rw [H.2.2 _ h2] at h3; cases h3
    · rcases ih hr.2 with ⟨k1, k2, k3⟩ | ⟨k1, k2, r, k3, k4⟩
      · refine .inr ⟨?_, h2, h4⟩
        rw [h1] at k1
        rcases k1.1 with e | ⟨e1, e2⟩
        · exact e.symm
        · rw [H.2.2 y e1] at e2; cases e2
      · exact absurd h1 k2
theorem UpM.below (N : NearB bs (nearD bs) ord) (U : UpM bs S h dl up) {x r : Nat} (hr : r ∈ dl) (k : RtU bs S x r) : lpB bs h x = true := by
  have h1 := (U.inn r hr).2.1
  rcases k.1 with rfl | ⟨_, k2⟩
  · exact h1
  · exact lp_trans N h1 k2
/-- Ways are cut short. -/
theorem UpM.cut (N : NearB bs (nearD bs) ord) (U : UpM bs S h dl up) (H : NewH bs S h) {y : Nat} {up' : Nat → Nat} (he : ∀ z, z < bs.length → up' z = up z ∨ (up' z = y ∧ UpR up z y)) : UpM bs S h dl up' := by
  refine ⟨fun z hz => ?_, U.inn, U.nd⟩
  rcases he z hz with e | ⟨e, k⟩
  · rw [e]; exact U.at_ z hz
  · rw [e]
    rcases U.find N H k hz with ⟨k1, k2, k3⟩ | ⟨k1, k2, r, k3, k4⟩
    · by_cases ez : z = y
      · left; rw [ez]; exact ⟨rfl, k1.2, k2⟩
      · right; left
        rcases k1.1 with k4 | k4
        · exact absurd k4 ez
        · exact ⟨fun e' => ez e'.symm, k4.1, k4.2⟩
    · exact .inr (.inr ⟨k1, k2, U.below N k3 k4, r, k3, k4⟩)
theorem UpR.lt {up : Nat → Nat} {n x y : Nat} (hup : ∀ x, x < n → up x < n) (k : UpR up x y) : x < n → y < n := by
  induction k with
  | done _ => exact id
  | step _ _ ih => exact fun h => ih (hup _ h)
theorem UpM.up_lt (N : NearB bs (nearD bs) ord) (U : UpM bs S h dl up) : ∀ x, x < bs.length → up x < bs.length := fun x hx => by
  by_cases e : up x = x
  · rw [e]; exact hx
  · exact (U.rank N hx e).2
/-- The greatest loop's head, of one that h's loop has, is in it too. -/
theorem RtU.inside (N : NearB bs (nearD bs) ord) (H : NewH bs S h) {x y : Nat} (k : RtU bs S x y) (hx : lpB bs h x = true) (hy : y ≠ h) : lpB bs h y = true := by
  rcases k.1 with rfl | ⟨k1, k2⟩
  · exact hx
  · rcases lp_nest N hx k2 with h1 | h1
    · exact h1
    · rw [H.2.2 y k1] at h1; cases h1
/-- One more is done. -/
theorem UpM.mark (N : NearB bs (nearD bs) ord) (U : UpM bs S h dl up) (H : NewH bs S h) {x y : Nat} (k : RtU bs S x y) (hn : y ∉ dl) (hx : lpB bs h x = true) (hy : y ≠ h) {up' : Nat → Nat} (he : ∀ z, up' z = if z = y then h else up z) : UpM bs S h (y :: dl) up' := by
  have hly := k.inside N H hx hy
  refine ⟨fun z hz => ?_, fun r hr => ?_, List.nodup_cons.2 ⟨hn, U.nd⟩⟩
  · rw [he]
    by_cases e : z = y
    · subst e; rw [if_pos rfl]
      exact .inr (.inr ⟨rfl, hy, hly, z, by simp, ⟨.inl rfl, k.2⟩⟩)
    · rw [if_neg e]
      rcases U.at_ z hz with h1 | h1 | ⟨h1, h2, h3, r, h4, h5⟩
      · exact .inl ⟨h1.1, h1.2.1, fun hm => (List.mem_cons.1 hm).elim e h1.2.2⟩
      · exact .inr (.inl h1)
      · exact .inr (.inr ⟨h1, h2, h3, r, by simp [h4], h5⟩)
  · rcases List.mem_cons.1 hr with rfl | hr
    · exact ⟨hy, hly, k.2⟩
    · exact U.inn r hr

/-! ### What lies open -/
structure CoM (bs : List BlkD) (S : List Nat) (h : Nat) (dl op : List Nat) : Prop where
  opn : ∀ x ∈ op, lpB bs h x = true
  back : ∀ k, k ∈ raL bs bs.length h → dmB bs h k = true → k = h ∨ k ∈ op ∨ ∃ r ∈ dl, RtU bs S k r
  clos : ∀ d ∈ dl, ∀ c, c ∈ raL bs bs.length d → c = h ∨ c ∈ op ∨ ∃ r ∈ dl, RtU bs S c r
theorem CoM.start (bs : List BlkD) (S : List Nat) (h : Nat) : CoM bs S h [] ((raL bs bs.length h).filter fun k => dmB bs h k) :=
  ⟨fun x hx => by rw [List.mem_filter] at hx; exact lp_back hx.1 hx.2, fun k hk hd => .inr (.inl (List.mem_filter.2 ⟨hk, hd⟩)), fun d hd => by simp at hd⟩
theorem CoM.skip {op : List Nat} {x : Nat} (C : CoM bs S h dl (op ++ [x])) (hx : x = h ∨ ∃ r ∈ dl, RtU bs S x r) : CoM bs S h dl op := by
  have key : ∀ k, (k = h ∨ k ∈ op ++ [x] ∨ ∃ r ∈ dl, RtU bs S k r) → k = h ∨ k ∈ op ∨ ∃ r ∈ dl, RtU bs S k r := by
    rintro k (h1 | h1 | h1)
    · exact .inl h1
    · rcases List.mem_append.1 h1 with h2 | h2
      · exact .inr (.inl h2)
      · rw [List.mem_singleton.1 h2]; exact hx.imp id .inr
    · exact .inr (.inr h1)
  exact ⟨fun y hy => C.opn y (by simp [hy]), fun k hk hd => key k (C.back k hk hd), fun d hd c hc => key c (C.clos d hd c hc)⟩
theorem CoM.take {op : List Nat} {x y : Nat} (C : CoM bs S h dl (op ++ [x])) (hx : RtU bs S x y) (hy : y ≠ h) (hly : lpB bs h y = true) : CoM bs S h (y :: dl) (op ++ raL bs bs.length y) := by
  have key : ∀ k, (k = h ∨ k ∈ op ++ [x] ∨ ∃ r ∈ dl, RtU bs S k r) → k = h ∨ k ∈ op ++ raL bs bs.length y ∨ ∃ r ∈ y :: dl, RtU bs S k r := by
    rintro k (h1 | h1 | ⟨r, h1, h2⟩)
    · exact .inl h1
    · rcases List.mem_append.1 h1 with h2 | h2
      · exact .inr (.inl (by simp [h2]))
      · rw [List.mem_singleton.1 h2]; exact .inr (.inr ⟨y, by simp, hx⟩)
    · exact .inr (.inr ⟨r, by simp [h1], h2⟩)
  refine ⟨fun z hz => ?_, fun k hk hd => key k (C.back k hk hd), fun d hd c hc => ?_⟩
  · rcases List.mem_append.1 hz with h1 | h1
    · exact C.opn z (by simp [h1])
    · exact lp_pred hly hy h1
  · rcases List.mem_cons.1 hd with rfl | hd
    · exact .inr (.inl (by simp [hc]))
    · exact key c (C.clos d hd c hc)
theorem CoM.done (N : NearB bs (nearD bs) ord) (C : CoM bs S h dl []) {x : Nat} (hl : lpB bs h x = true) : x = h ∨ ∃ r ∈ dl, RtU bs S x r := by
  refine lp_least (fun x => x = h ∨ ∃ r ∈ dl, RtU bs S x r) (.inl rfl) (fun k hk hd => (C.back k hk hd).imp id fun h1 => h1.resolve_left (by simp)) (fun x c hx hP hne hc => ?_) hl
  rcases hP with rfl | ⟨r, hr, k⟩
  · exact absurd rfl hne
  · by_cases e : x = r
    · subst e
      exact (C.clos x hr c hc).imp id fun h1 => h1.resolve_left (by simp)
    · rcases k.1 with h1 | ⟨h1, h2⟩
      · exact absurd h1 e
      · exact .inr ⟨r, hr, .inr ⟨h1, lp_pred h2 e hc⟩, k.2⟩

/-! ### The smallest loop around each -/
def ArS (bs : List BlkD) (S : List Nat) (v : Int) (b : Nat) : Prop :=
  (v = -1 ∧ ∀ g ∈ S, g ≠ b → lpB bs g b = false) ∨ ∃ a : Nat, v = (a : Int) ∧ a ∈ S ∧ a ≠ b ∧ lpB bs a b = true ∧ ∀ g ∈ S, g ≠ b → lpB bs g b = true → lpB bs g a = true
def ArM (bs : List BlkD) (S : List Nat) (h : Nat) (dl : List Nat) (ar : Nat → Int) : Prop := ∀ b, b < bs.length → (b ∈ dl ∧ ar b = (h : Int)) ∨ (b ∉ dl ∧ ArS bs S (ar b) b)
theorem ArM.start {ar : Nat → Int} (k : ∀ b, b < bs.length → ArS bs S (ar b) b) (h : Nat) : ArM bs S h [] ar := fun b hb => .inr ⟨by simp, k b hb⟩
theorem ArM.mark {ar ar' : Nat → Int} (k : ArM bs S h dl ar) {y : Nat} (he : ∀ z, ar' z = if z = y then (h : Int) else ar z) : ArM bs S h (y :: dl) ar' := fun b hb => by
  rw [he]
  by_cases e : b = y
  · left; exact ⟨by simp [e], by rw [if_pos e]⟩
  · rw [if_neg e]
    exact (k b hb).imp (fun h1 => ⟨by simp [h1.1], h1.2⟩) (fun h1 => ⟨by simp [e, h1.1], h1.2⟩)
theorem UpM.done (N : NearB bs (nearD bs) ord) (U : UpM bs S h dl up) (C : CoM bs S h dl []) : UpS bs (h :: S) up := ⟨fun x hx => by
  rcases U.at_ x hx with ⟨h1, h2, h3⟩ | ⟨h1, h2, h3⟩ | ⟨h1, h2, h3, h4⟩
  · refine .inl ⟨h1, fun g hg hne => ?_⟩
    rcases List.mem_cons.1 hg with rfl | hg
    · cases hl : lpB bs g x
      · rfl
      · rcases C.done N hl with e | ⟨r, hr, k⟩
        · exact absurd e.symm hne
        · rcases k.1 with rfl | ⟨k1, k2⟩
          · exact absurd hr h3
          · by_cases e : r = x
            · subst e; exact absurd hr h3
            · rw [h2 r k1 e] at k2; cases k2
    · exact h2 g hg hne
  · exact .inr ⟨h1, by simp [h2], h3⟩
  · exact .inr ⟨by rw [h1]; exact fun e => h2 e.symm, by rw [h1]; simp, by rw [h1]; exact h3⟩⟩
theorem ArM.done (N : NearB bs (nearD bs) ord) {ar : Nat → Int} (k : ArM bs S h dl ar) (U : UpM bs S h dl up) (C : CoM bs S h dl []) (H : NewH bs S h) : ∀ b, b < bs.length → ArS bs (h :: S) (ar b) b := fun b hb => by
  rcases k b hb with ⟨h1, h2⟩ | ⟨h1, ⟨h2, h3⟩ | ⟨a, h2, h3, h4, h5, h6⟩⟩
  · obtain ⟨d1, d2, d3⟩ := U.inn b h1
    refine .inr ⟨h, h2, by simp, fun e => d1 e.symm, d2, fun g hg hne hl => ?_⟩
    rcases List.mem_cons.1 hg with rfl | hg
    · exact lp_self (lp_hd hl)
    · rw [d3 g hg hne] at hl; cases hl
  · refine .inl ⟨h2, fun g hg hne => ?_⟩
    rcases List.mem_cons.1 hg with rfl | hg
    · cases hl : lpB bs g b
      · rfl
      · rcases C.done N hl with e | ⟨r, hr, k⟩
        · exact absurd e.symm hne
        · rcases k.1 with rfl | ⟨k1, k2⟩
          · exact absurd hr h1
          · by_cases e : r = b
            · subst e; exact absurd hr h1
            · rw [h3 r k1 e] at k2; cases k2
    · exact h3 g hg hne
  · refine .inr ⟨a, h2, by simp [h3], h4, h5, fun g hg hne hl => ?_⟩
    rcases List.mem_cons.1 hg with rfl | hg
    · rcases lp_nest N hl h5 with h7 | h7
      · exact h7
      · rw [H.2.2 a h3] at h7; cases h7
    · exact h6 g hg hne hl

/-! ### When all are found -/
structure NestE (bs : List BlkD) (hd : Nat → Bool) (ar : Nat → Int) : Prop where
  hd : ∀ b, b < bs.length → hd b = hdB bs b
  ar : ∀ b, b < bs.length → (ar b = -1 ∧ ∀ g, g ≠ b → lpB bs g b = false) ∨ ∃ a : Nat, ar b = (a : Int) ∧ a < bs.length ∧ a ≠ b ∧ lpB bs a b = true ∧ ∀ g, g ≠ b → lpB bs g b = true → lpB bs g a = true
theorem ArS.all (N : NearB bs (nearD bs) ord) {hd : Nat → Bool} {ar : Nat → Int} (hS : ∀ b, reachF bs b = true → b ∈ S) (hh : ∀ b, b < bs.length → hd b = hdB bs b) (k : ∀ b, b < bs.length → ArS bs S (ar b) b) : NestE bs hd ar := by
  have hg : ∀ g b, lpB bs g b = true → g ∈ S := fun g b hl => hS g (hd_reach N (lp_hd hl))
  refine ⟨hh, fun b hb => ?_⟩
  rcases k b hb with ⟨h1, h2⟩ | ⟨a, h1, h2, h3, h4, h5⟩
  · refine .inl ⟨h1, fun g hne => ?_⟩
    cases hl : lpB bs g b
    · rfl
    · rw [h2 g (hg g b hl) hne] at hl; cases hl
  · exact .inr ⟨a, h1, hd_lt (lp_hd h4), h3, h4, fun g hne hl => h5 g (hg g b hl) hne hl⟩
/-- Those taken ahead of one, backwards in the order, have it in none of their loops. -/
theorem new_head (N : NearB bs (nearD bs) ord) {pre post : List Nat} {h : Nat} (he : orderF bs = pre ++ h :: post) : NewH bs post h := by
  have hh : h ∈ orderF bs := by rw [he]; simp
  have hnd := orderF_nodup bs
  rw [he] at hnd
  refine ⟨reachF_lt (orderF_mem.1 hh), (List.nodup_cons.1 (List.nodup_append.1 hnd).2.1).1, fun g hg => ?_⟩
  cases hl : lpB bs g h
  · rfl
  · exfalso
    have hne : g ≠ h := fun e => (List.nodup_cons.1 (List.nodup_append.1 hnd).2.1).1 (e ▸ hg)
    obtain ⟨j, hj⟩ := List.mem_iff_getElem?.1 hg
    refine orderF_behind (i := pre.length) (x := h) (a := g) (by rw [he]; simp) (lp_dm N hl) hne (pre.length + (j + 1)) (by omega) ?_
    rw [he, List.getElem?_append_right (by omega), show pre.length + (j + 1) - pre.length = j + 1 by omega]; simpa using hj
end Go.Proofs.Ytflbooopgjgkbaa

/- The program's outmost: the head of the greatest loop that a block is in; ways up are cut short. -/
namespace Go.Proofs.Ytflbooopgjgkbaa
open Go.ChangeShapes Go.WideShapes Go.RowKit Go.Deep
set_option linter.unusedVariables false

def ToldOm (n gu b : Nat) (up : Nat → Nat) (w : World) (e : Ending) (w' : World) : Prop :=
  ∃ (y : Nat) (up' : Nat → Nat), e = .returned (.int .i64 (y : Int)) ∧ UpR up b y ∧ y < n ∧ (∀ z, z < n → up' z = up z ∨ (up' z = y ∧ UpR up z y)) ∧ RowG w' gu 3 n (fun z => .int .i64 (up' z : Int)) ∧ FrX (fun k => k = gu) w w'
theorem upR_ex {up : Nat → Nat} {n : Nat} {rank : Nat → Nat} (hup : ∀ x, x < n → up x ≠ x → rank (up x) < rank x ∧ up x < n) : ∀ (m x : Nat), rank x ≤ m → x < n → ∃ y, UpR up x y ∧ y < n := by
  intro m
  induction m using Nat.strongRecOn with
  | _ m ih =>
    intro x hm hx
    by_cases e : up x = x
    · exact ⟨x, .done e, hx⟩
    · obtain ⟨h1, h2⟩ := hup x hx e
      obtain ⟨y, h3, h4⟩ := ih (rank (up x)) (by omega) (up x) (Nat.le_refl _) h2
      exact ⟨y, .step e h3, h4⟩
theorem UpR.next {up : Nat → Nat} {x y : Nat} (h : UpR up x y) (hne : up x ≠ x) : UpR up (up x) y := by
  cases h with
  | done h => exact absurd h hne
  | step _ h => exact h

set_option maxRecDepth 100000 in
set_option maxHeartbeats 4000000 in
theorem outmost_any (n Gh Gr gu cu b : Nat) (up rank : Nat → Nat) (w : World) (hn : n ≤ 1000) (hb : b < n) (hrow : RowG w gu 3 n (fun z => .int .i64 (up z : Int))) (hup : ∀ x, x < n → up x ≠ x → rank (up x) < rank x ∧ up x < n) :
    Calls Try.prog 51 #[.agg #[.slice (some ⟨Gh, 0, none⟩) n n, .slice (some ⟨Gr, 0, none⟩) n n, .slice (some ⟨gu, 0, none⟩) n cu], .int .i64 (b : Int)] w (ToldOm n gu b up w) := by
  obtain ⟨y, hy, hyn⟩ := upR_ex hup (rank b) b (Nat.le_refl _) hb
  have HY := Lib.hid hy
  have HUP := Lib.hid hup
  clear hy hup
  go_enter Try.func51, Try.ntmps51
  go_wp2_with fail
  obtain ⟨w1, hw1, hs1, hk1, hbel1, hc1, -⟩ := named w #[.slice (some ⟨Gh, 0, none⟩) n n, .slice (some ⟨Gr, 0, none⟩) n n, .slice (some ⟨gu, 0, none⟩) n cu] 73
  rw [← hw1]
  have b2 : w1.cell? ⟨w.heap.size, 2, none⟩ = some (.slice (some ⟨gu, 0, none⟩) n cu) := hc1 2 _ rfl
  have hr1 : RowG w1 gu 3 n (fun z => .int .i64 (up z : Int)) := hrow.of_block (hbel1.block gu hrow.lt)
  have hlt := hrow.lt
  have HB1 := Lib.hid hbel1
  clear hw1 hc1 hk1 hrow hbel1
  go_loopw [5] (fun s wr => ∃ x : Nat, s = .int .i64 (x : Int) ∧ x < n ∧ UpR up x y ∧ wr = w1) (fun s _ => rank (intOf s).toNat)
  case atStart => exact ⟨b, rfl, hb, HY.out, rfl⟩
  case round =>
    obtain ⟨x, rfl, hx, hxy, rfl⟩ := hrel
    obtain ⟨wo, rfl⟩ : ∃ wo, wo = wr := ⟨wr, rfl⟩
    have cx := hr1.cell hx
    have HXY := Lib.hid hxy
    have HR1 := Lib.hid hr1
    by_cases he : up x = x
    · have hy2 : y = x := by
        cases hxy with
        | done _ => rfl
        | step h _ => exact absurd he h
      subst hy2
      clear hxy hr1
      rw [he] at cx
      go_wp2_with fail
      have hfr0 : FrX (fun k => k = gu) wo wo := FrX.refl _ _
      go_loopw [1] (fun s wq => ∃ (x : Nat) (up' : Nat → Nat), s = .int .i64 (x : Int) ∧ x < n ∧ UpR up x y ∧ (∀ z, z < n → up' z = up z ∨ (up' z = y ∧ UpR up z y)) ∧ (∀ z, rank z ≤ rank x → up' z = up z) ∧ RowG wq gu 3 n (fun z => .int .i64 (up' z : Int)) ∧ FrX (fun k => k = gu) wo wq) (fun s _ => rank (intOf s).toNat)
      case atStart => exact ⟨b, up, rfl, hb, HY.out, fun _ _ => .inl rfl, fun _ _ => rfl, HR1.out, hfr0⟩
      case round =>
        obtain ⟨wq, rfl⟩ : ∃ wq, wq = wr := ⟨wr, rfl⟩
        obtain ⟨x, up', rfl, hx, hxy, hall, hlow, hrow, hfr⟩ := hrel
        have b2' : wq.cell? ⟨w.heap.size, 2, none⟩ = some (.slice (some ⟨gu, 0, none⟩) n cu) := (World.cell?_of_block (hfr.block w.heap.size (by omega) (by show ¬ w.heap.size = gu; omega))).trans b2
        have cx := hrow.cell hx
        have fx := hrow.frozen x
        rw [hlow x (Nat.le_refl _)] at cx
        have HA := Lib.hid (And.intro hall hlow)
        have HXY := Lib.hid hxy
        have HR := Lib.hid hrow
        have HF := Lib.hid hfr
        by_cases he2 : up x = y
        · clear hall hlow hrow hfr hxy
          rw [he2] at cx
          go_wp2_with fail
          go_ret
          exact ⟨y, up', rfl, HY.out, hyn, HA.out.1, HR.out, (FrX.of_below HB1.out).trans HF.out⟩
        · have hne : up x ≠ x := fun e => by
            have h1 : y = x := by
              cases hxy with
              | done _ => rfl
              | step h _ => exact absurd e h
            exact he2 (e.trans h1.symm)
          obtain ⟨z, hz⟩ : ∃ z, up x = z := ⟨_, rfl⟩
          have h1 := HUP.out x hx hne
          have h2 := hxy.next hne
          rw [hz] at cx h1 h2 he2
          have HH := Lib.hid (And.intro h1 h2)
          clear hall hlow hrow hfr hxy h1 h2 hne
          go_wp2_with fail
          go_roundw
          case rel =>
            refine ⟨z, fun v => if v = x then y else up' v, rfl, HH.out.1.2, HH.out.2, fun v hv => ?_, fun v hv => ?_, (HR.out.set x _).congr fun v _ => ?_, HF.out.setCell (.inl rfl) _⟩
            · dsimp only
              by_cases e : v = x
              · rw [if_pos e]; exact .inr ⟨rfl, by rw [e]; exact HXY.out⟩
              · rw [if_neg e]; exact HA.out.1 v hv
            · have : v ≠ x := fun e => by subst e; have := HH.out.1.1; omega
              dsimp only
              rw [if_neg this]; exact HA.out.2 v (by have := HH.out.1.1; omega)
            · dsimp only
              by_cases e : v = x
              · rw [if_pos e, if_pos e]
              · rw [if_neg e, if_neg e]
          case measure => simp only [intOf]; simpa using HH.out.1.1
    · obtain ⟨z, hz⟩ : ∃ z, up x = z := ⟨_, rfl⟩
      have h1 := HUP.out x hx he
      have h2 := hxy.next he
      rw [hz] at cx h1 h2 he
      have HH := Lib.hid (And.intro h1 h2)
      clear hxy hr1 h1 h2
      go_wp2_with fail
      go_roundw
      case rel => exact ⟨z, rfl, HH.out.1.2, HH.out.2, trivial⟩
      case measure => simp only [intOf]; simpa using HH.out.1.1
end Go.Proofs.Ytflbooopgjgkbaa

/- While nest goes round: what lies in memory; small laws. -/
namespace Go.Proofs.Ytflbooopgjgkbaa
open Go.ChangeShapes Go.WideShapes Go.RowKit Go.Deep Go.Shelf
set_option linter.unusedVariables false

/-- A list of numbers of the call's own, cut by its last one. -/
theorem size_int_ (w : World) : (sizeOf (Try.prog.elem 22)).run Try.prog w = .ok 1 w := by kernel_rfl
theorem elem_int_ : Try.prog.underlying 22 = some (.slice (Try.prog.elem 22)) := by kernel_rfl
theorem own_popI {w : World} {K : Nat} {v : Value} {op : List Nat} {x : Nat} (h : w.ownsRow K 3 1 v (op ++ [x]).length ((op ++ [x]).map fun y : Nat => Value.int .i64 (y : Int))) :
    ∃ g cap, v = .slice (some ⟨g, 0, none⟩) (op.length + 1) cap ∧ K ≤ g ∧ w.cell? ⟨g, op.length, none⟩ = some (.int .i64 (x : Int)) ∧ op.length + 1 ≤ cap ∧ cap ≤ maxLen ∧
      (∀ W, (Instr.slice 22 (.slice (some ⟨g, 0, none⟩) (op.length + 1) cap) none (some (.int .i64 op.length)) none).run Try.prog W = .ok (.slice (some ⟨g, 0, none⟩) op.length cap) W) ∧
      w.ownsRow K 3 1 (.slice (some ⟨g, 0, none⟩) op.length cap) op.length (op.map fun y : Nat => Value.int .i64 (y : Int)) := by
  have hl : (op ++ [x]).length = op.length + 1 := by simp
  rw [hl] at h
  have h0 := h
  obtain ⟨h1, ⟨-, h2⟩ | ⟨g, cap, cur, rfl, hb, hh, hn, hc, hsz, ht⟩⟩ := h
  · omega
  · have hs : ((op ++ [x]).map fun y : Nat => Value.int .i64 (y : Int)) = (op.map fun y : Nat => Value.int .i64 (y : Int)) ++ [.int .i64 (x : Int)] := by simp
    refine ⟨g, cap, rfl, hb, ?_, hn, hc, fun W => ?_, ownsRow_pop (by simp) (by rw [← hs]; exact h0)⟩
    · rw [h0.cellAt _ (by omega), hs, List.getElem?_append_right (by simp)]; simp
    · rw [run_slice_h W 22 (some ⟨g, 0, none⟩) (op.length + 1) cap elem_int_ .i64 op.length (by omega) (by omega), size_int_]
      have hc0 : cap ≠ 0 := by omega
      simp [Result.andThen, sliced, hc0, Addr.add]

theorem own_sliceL {w : World} {K n size : Nat} {e : TypeId} {v : Value} {xs : List Value} (h : w.ownsRow K e size v n xs) : ∃ A c, v = .slice A n c := by
  rcases h.2 with ⟨rfl, h0⟩ | ⟨g, c, cur, rfl, -⟩
  · exact ⟨none, 0, by rw [h0]⟩
  · exact ⟨_, _, rfl⟩
/-! ### How many aren't done -/
def cntN (h GR n : Nat) (w : World) : Nat := (List.range n).countP fun b => match w.cell? ⟨GR, b, none⟩ with | some (.int _ x) => decide (x ≠ (h : Int)) | _ => true
theorem cntN_row {h GR n : Nat} {w : World} {ar : Nat → Int} (hr : w.rowIs GR 3 n (fun b => .int .i64 (ar b))) : cntN h GR n w = (List.range n).countP fun b => decide (ar b ≠ (h : Int)) := by
  unfold cntN
  refine List.countP_congr fun b hb => ?_
  rw [hr.cell (List.mem_range.1 hb)]
theorem cnt_mark {h n y : Nat} {ar ar' : Nat → Int} (hy : y < n) (hn : ar y ≠ (h : Int)) (he : ∀ z, ar' z = if z = y then (h : Int) else ar z) :
    ((List.range n).countP fun b => decide (ar' b ≠ (h : Int))) + 1 = (List.range n).countP fun b => decide (ar b ≠ (h : Int)) := by
  have key : ∀ l : List Nat, l.Nodup → y ∈ l → (l.countP fun b => decide (ar' b ≠ (h : Int))) + 1 = l.countP fun b => decide (ar b ≠ (h : Int)) := by
    intro l
    induction l with
    | nil => intro _ hm; simp at hm
    | cons x l ih =>
      intro hnd hm
      obtain ⟨hx, hnd'⟩ := List.nodup_cons.1 hnd
      rw [List.countP_cons, List.countP_cons]
      by_cases e : x = y
      · subst e
        have h1 : (l.countP fun b => decide (ar' b ≠ (h : Int))) = l.countP fun b => decide (ar b ≠ (h : Int)) := List.countP_congr fun b hb => by
          rw [he, if_neg (show ¬ b = x from fun e => hx (by rw [← e]; exact hb))]
        rw [h1, he, if_pos rfl]; simp [hn]
      · rw [← ih hnd' (by simpa [Ne.symm e] using hm), he x, if_neg e]; omega
  exact key _ List.nodup_range (List.mem_range.2 hy)
def slLen : Value → Nat
  | .slice _ l _ => l
  | _ => 0
/-- One that is reached, but the first, has one ahead of it. -/
theorem ra_some {bs : List BlkD} {y : Nat} (hr : reachF bs y = true) (h0 : y ≠ 0) : 0 < (raL bs bs.length y).length := by
  have hn : bs.length ≠ 0 := fun e => by have := reachF_lt hr; omega
  cases (reachF_iff hn).1 hr with
  | refl => exact absurd rfl h0
  | @step u _ hu hy =>
    have hru : reachF bs u = true := (reachF_iff hn).2 hu
    exact List.length_pos_of_mem (ra_mem.2 ⟨reachF_lt hru, hru, hy⟩)
theorem ra_len (bs : List BlkD) (b : Nat) : (raL bs bs.length b).length ≤ bs.length := raL_len bs bs.length b
/-- Those ahead of a head that it dominates, of the first j. -/
def opl (bs : List BlkD) (h j : Nat) : List Nat := ((raL bs bs.length h).take j).filter fun k => dmB bs h k
theorem opl_succ {bs : List BlkD} {h j k : Nat} (hk : (raL bs bs.length h)[j]? = some k) : opl bs h (j + 1) = opl bs h j ++ (if dmB bs h k = true then [k] else []) := by
  unfold opl
  rw [take_succ_of hk, List.filter_append]
  congr 1
  by_cases e : dmB bs h k = true
  · rw [if_pos e]; simp [e]
  · rw [if_neg e]; simp [e]
theorem opl_len (bs : List BlkD) (h j : Nat) : (opl bs h j).length ≤ bs.length := by
  unfold opl
  have h1 := List.length_filter_le (fun k => dmB bs h k) ((raL bs bs.length h).take j)
  have h2 : ((raL bs bs.length h).take j).length ≤ (raL bs bs.length h).length := by simp; omega
  have := ra_len bs h
  omega
theorem opl_all (bs : List BlkD) (h : Nat) {j : Nat} (hj : (raL bs bs.length h).length ≤ j) : opl bs h j = (raL bs bs.length h).filter fun k => dmB bs h k := by unfold opl; rw [List.take_of_length_le hj]
theorem opl_hd (bs : List BlkD) (h : Nat) {j : Nat} (hj : (raL bs bs.length h).length ≤ j) : decide (0 < (opl bs h j).length) = hdB bs h := by
  rw [opl_all bs h hj]
  unfold hdB
  cases ha : (raL bs bs.length h).any fun k => dmB bs h k
  · rw [List.any_eq_false] at ha
    refine decide_eq_false ?_
    rw [List.filter_eq_nil_iff.2 (fun k hk => ha k hk)]; simp
  · obtain ⟨k, hk, hd⟩ := List.any_eq_true.1 ha
    exact decide_eq_true (List.length_pos_of_mem (List.mem_filter.2 ⟨hk, hd⟩))

/-- The three rows. -/
structure NsI (w : World) (n N3 GA GR K : Nat) (Au : Option Addr) (cu : Nat) (hd : Nat → Bool) (ar : Nat → Int) (up : Nat → Nat) : Prop where
  box : w.heap[N3]? = some (.cells #[.slice (some ⟨GA, 0, none⟩) n n, .slice (some ⟨GR, 0, none⟩) n n, .slice Au n cu] 73)
  rA : w.rowIs GA 4 n (fun b => .bool (hd b))
  rR : w.rowIs GR 3 n (fun b => .int .i64 (ar b))
  rU : 0 < n → ∃ g, Au = some ⟨g, 0, none⟩ ∧ K ≤ g ∧ g ≠ N3 ∧ g ≠ GA ∧ g ≠ GR ∧ RowG w g 3 n (fun b => .int .i64 (up b : Int))
  d1 : GA ≠ GR
  d2 : GA ≠ N3
  d3 : GR ≠ N3
section
variable {w w' : World} {n N3 GA GR K g : Nat} {Au : Option Addr} {cu : Nat} {hd : Nat → Bool} {ar : Nat → Int} {up : Nat → Nat}
theorem NsI.lts (h : NsI w n N3 GA GR K Au cu hd ar up) : N3 < w.heap.size ∧ GA < w.heap.size ∧ GR < w.heap.size := ⟨(Array.getElem?_eq_some_iff.1 h.box).1, h.rA.lt, h.rR.lt⟩
theorem NsI.go (h : NsI w n N3 GA GR K Au cu hd ar up) (hb : Below w.heap.size w w') : NsI w' n N3 GA GR K Au cu hd ar up :=
  ⟨(hb.block _ h.lts.1).trans h.box, h.rA.of_block (hb.block _ h.lts.2.1), h.rR.of_block (hb.block _ h.lts.2.2), fun hp => by obtain ⟨g, h1, h2, h3, h4, h5, h6⟩ := h.rU hp; exact ⟨g, h1, h2, h3, h4, h5, h6.of_block (hb.block _ h6.lt)⟩, h.d1, h.d2, h.d3⟩
theorem NsI.same (h : NsI w n N3 GA GR K Au cu hd ar up) (hb : ∀ k, k < w.heap.size → w'.heap[k]? = w.heap[k]?) : NsI w' n N3 GA GR K Au cu hd ar up :=
  ⟨(hb _ h.lts.1).trans h.box, h.rA.of_block (hb _ h.lts.2.1), h.rR.of_block (hb _ h.lts.2.2), fun hp => by obtain ⟨g, h1, h2, h3, h4, h5, h6⟩ := h.rU hp; exact ⟨g, h1, h2, h3, h4, h5, h6.of_block (hb _ h6.lt)⟩, h.d1, h.d2, h.d3⟩
theorem NsI.put (h : NsI w n N3 GA GR K Au cu hd ar up) {l : Nat} {o : Obj} (o' : Obj) (ho : w.heap[l]? = some o) (hc : o.isCells = false) : NsI (w.putObj l o') n N3 GA GR K Au cu hd ar up := by
  have hne : ∀ k (c : Array Value) t f, w.heap[k]? = some (.cells c t f) → k ≠ l := fun k c t f hk e => by
    subst e; rw [ho] at hk; cases hk; cases hc
  have hk : ∀ k, k ≠ l → (w.putObj l o').heap[k]? = w.heap[k]? := fun k hk => World.putObj_heap_other hk
  have h1 := h.rA
  have h2 := h.rR
  obtain ⟨c1, e1, -⟩ := h1
  obtain ⟨c2, e2, -⟩ := h2
  refine ⟨(hk _ (hne _ _ _ _ h.box)).trans h.box, h.rA.of_block (hk _ (hne _ _ _ _ e1)), h.rR.of_block (hk _ (hne _ _ _ _ e2)), fun hp => ?_, h.d1, h.d2, h.d3⟩
  obtain ⟨g, h1, h2, h3, h4, h5, h6⟩ := h.rU hp
  have h7 := h6
  obtain ⟨c3, e3, -⟩ := h7
  exact ⟨g, h1, h2, h3, h4, h5, h6.of_block (hk _ (hne _ _ _ _ e3))⟩
theorem NsI.grow (h : NsI w n N3 GA GR K Au cu hd ar up) {B : Nat} (h1 : N3 < B) (h2 : GA < B) (h3 : GR < B) (h4 : ∀ g, Au = some ⟨g, 0, none⟩ → 0 < n → g < B) (hk : ∀ i, i < w.heap.size → i < B → w'.heap[i]? = w.heap[i]?) : NsI w' n N3 GA GR K Au cu hd ar up :=
  ⟨(hk _ h.lts.1 h1).trans h.box, h.rA.of_block (hk _ h.lts.2.1 h2), h.rR.of_block (hk _ h.lts.2.2 h3), fun hp => by obtain ⟨g, e1, e2, e3, e4, e5, e6⟩ := h.rU hp; exact ⟨g, e1, e2, e3, e4, e5, e6.of_block (hk _ e6.lt (h4 g e1 hp))⟩, h.d1, h.d2, h.d3⟩
theorem NsI.setA (h : NsI w n N3 GA GR K Au cu hd ar up) (b : Nat) (x : Bool) : NsI (w.setCell ⟨GA, b, none⟩ (.bool x)) n N3 GA GR K Au cu (fun y => if y = b then x else hd y) ar up := by
  have hk : ∀ k, k ≠ GA → (w.setCell ⟨GA, b, none⟩ (.bool x)).heap[k]? = w.heap[k]? := fun k hk => Below.heap_setCell _ _ _ _ hk
  refine ⟨(hk _ (Ne.symm h.d2)).trans h.box, (h.rA.set b _).congr fun y _ => ?_, h.rR.of_block (hk _ (Ne.symm h.d1)), fun hp => by obtain ⟨g, h1, h2, h3, h4, h5, h6⟩ := h.rU hp; exact ⟨g, h1, h2, h3, h4, h5, h6.of_block (hk _ h4)⟩, h.d1, h.d2, h.d3⟩
  by_cases e : y = b
  · rw [if_pos e, if_pos e]
  · rw [if_neg e, if_neg e]
theorem NsI.setR (h : NsI w n N3 GA GR K Au cu hd ar up) (b : Nat) (x : Int) : NsI (w.setCell ⟨GR, b, none⟩ (.int .i64 x)) n N3 GA GR K Au cu hd (fun y => if y = b then x else ar y) up := by
  have hk : ∀ k, k ≠ GR → (w.setCell ⟨GR, b, none⟩ (.int .i64 x)).heap[k]? = w.heap[k]? := fun k hk => Below.heap_setCell _ _ _ _ hk
  refine ⟨(hk _ (Ne.symm h.d3)).trans h.box, h.rA.of_block (hk _ h.d1), (h.rR.set b _).congr fun y _ => ?_, fun hp => by obtain ⟨g, h1, h2, h3, h4, h5, h6⟩ := h.rU hp; exact ⟨g, h1, h2, h3, h4, h5, h6.of_block (hk _ h5)⟩, h.d1, h.d2, h.d3⟩
  by_cases e : y = b
  · rw [if_pos e, if_pos e]
  · rw [if_neg e, if_neg e]
theorem NsI.row (h : NsI w n N3 GA GR K (some ⟨g, 0, none⟩) cu hd ar up) (hp : 0 < n) : K ≤ g ∧ g ≠ N3 ∧ g ≠ GA ∧ g ≠ GR ∧ RowG w g 3 n (fun b => .int .i64 (up b : Int)) := by
  obtain ⟨g', h1, h2, h3, h4, h5, h6⟩ := h.rU hp
  obtain rfl : g = g' := by injection h1 with h1; injection h1
  exact ⟨h2, h3, h4, h5, h6⟩
theorem NsI.newU (h : NsI w n N3 GA GR K (some ⟨g, 0, none⟩) cu hd ar up) (hp : 0 < n) {up' : Nat → Nat} (hk : ∀ k, k < w.heap.size → k ≠ g → w'.heap[k]? = w.heap[k]?) (hr : RowG w' g 3 n (fun b => .int .i64 (up' b : Int))) : NsI w' n N3 GA GR K (some ⟨g, 0, none⟩) cu hd ar up' := by
  obtain ⟨h2, h3, h4, h5, h6⟩ := h.row hp
  have hl := h.lts
  exact ⟨(hk _ hl.1 (Ne.symm h3)).trans h.box, h.rA.of_block (hk _ hl.2.1 (Ne.symm h4)), h.rR.of_block (hk _ hl.2.2 (Ne.symm h5)), fun _ => ⟨g, rfl, h2, h3, h4, h5, hr⟩, h.d1, h.d2, h.d3⟩
theorem NsI.setU (h : NsI w n N3 GA GR K (some ⟨g, 0, none⟩) cu hd ar up) (hp : 0 < n) (b x : Nat) : NsI (w.setCell ⟨g, b, none⟩ (.int .i64 (x : Int))) n N3 GA GR K (some ⟨g, 0, none⟩) cu hd ar (fun y => if y = b then x else up y) :=
  h.newU hp (fun k _ hk => Below.heap_setCell _ _ _ _ hk) (((h.row hp).2.2.2.2.set b _).congr fun y _ => by
    by_cases e : y = b
    · rw [if_pos e, if_pos e]
    · rw [if_neg e, if_neg e])
end
/-- An append in a round's list, onto a list of the call's own. -/
theorem round_append {P : Program} {ops : Array Oper} {rest : List Oper} {o : Oper} {a : Act} {w : World} {Q : Exit → Act → World → Prop} {l mm : Nat} (hgd : o.guard = none) (s x : Operand) (t : TypeId)
    (ho : o.op = .call { callee := .builtin .append, args := #[s, x], argTypes := #[t, t] }) (e : TypeId) (i : TypeInfo) (z : Value) (bytes : Nat) (ht : P.underlying t = some (.slice e)) (hi : P.info? e = some i ∧ i.zero = some z ∧ i.size = 1 ∧ i.bytes = bytes) (hzs : z.cells.size = 1)
    (base : Nat) (v : Value) (n : Nat) (xs : List Value) (hs : a.eval s = v) (hown : w.ownsRow base e 1 v n xs)
    (ad : Addr) (m c : Nat) (news : List Value) (hx : a.eval x = .slice (some ad) m c) (hl : news.length = m) (hnews : ∀ j u, news[j]? = some u → w.cell? (ad.add j) = some u) (h1 : ∀ u ∈ news, u.oneCell' = true)
    (hm : 0 < m) (h63 : n + m ≤ maxLen) (hbytes : (n + m) * bytes ≤ 140737488355328) (hbase : base ≤ w.heap.size) (H : Nat) (hH : w.heap.size = H)
    (h : ∀ g cap w', w'.ownsRow base e 1 (.slice (some ⟨g, 0, none⟩) (n + m) cap) (n + m) (xs ++ news) → w.grownBy w' v.ownBlock → (v.ownBlock = some g ∨ g = H) → g < w'.heap.size → wpListIn (Fence.wide.inRound l) mm P ops Q rest (a.put o.dst (.slice (some ⟨g, 0, none⟩) (n + m) cap)) w') :
    wpListIn (Fence.wide.inRound l) mm P ops Q (o :: rest) a w :=
  wpListIn_plain hgd fun _ hK => wp_in (by rw [ho]; intro c hc; cases hc)
    (wp_append_lies w s x t ho base e i z 1 bytes ht hi.1 hi.2.1 hi.2.2.1 hi.2.2.2 hzs (by decide) v n xs hs hown ad m c news hx (by rw [hl, Nat.mul_one]) hnews h1 hm h63 hbytes hbase H hH fun g cap w' h2 h3 h4 h5 => hK _ _ (h g cap w' h2 h3 h4 h5))
end Go.Proofs.Ytflbooopgjgkbaa
