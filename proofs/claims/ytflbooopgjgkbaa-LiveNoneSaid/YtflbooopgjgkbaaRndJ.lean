/- Numbers by which it is told what dominates what: those of what a block dominates go from its own on, without a gap. Mathematics, no condition. -/
import Derived.Test.YtflbooopgjgkbaaLpMJ
import Derived.Test.YtflbooopgjgkbaaDmAJ
import Derived.OrdersIn
import Derived.RangeFuncNested
import Derived.RangeFuncLeaves
namespace Go.Proofs.Ytflbooopgjgkbaa
set_option linter.unusedVariables false

def sumC (M : Nat → Nat) (near : Nat → Int) : List Nat → Nat → Nat
  | [], _ => 0
  | c :: l, p => (if near c = (p : Int) then M c else 0) + sumC M near l p
theorem sumC_append (M : Nat → Nat) (near : Nat → Int) (p : Nat) : ∀ l l', sumC M near (l ++ l') p = sumC M near l p + sumC M near l' p
  | [], l' => by simp [sumC]
  | c :: l, l' => by simp [sumC, sumC_append M near p l l', Nat.add_assoc]
theorem sumC_congr {M M' : Nat → Nat} {near : Nat → Int} {p : Nat} : ∀ {l : List Nat}, (∀ c ∈ l, M c = M' c) → sumC M near l p = sumC M' near l p
  | [], _ => rfl
  | c :: l, h => by simp only [sumC]; rw [sumC_congr (l := l) (fun x hx => h x (by simp [hx])), h c (by simp)]
theorem sumC_zero {M : Nat → Nat} {near : Nat → Int} {p : Nat} : ∀ {l : List Nat}, (∀ c ∈ l, near c ≠ (p : Int)) → sumC M near l p = 0
  | [], _ => rfl
  | c :: l, h => by simp only [sumC]; rw [sumC_zero (l := l) (fun x hx => h x (by simp [hx])), if_neg (h c (by simp))]
/-- How many each has under it, of those that were counted. -/
def manyL (near : Nat → Int) : List Nat → Nat → Nat
  | [], _ => 0
  | b :: l, x => if near b = (x : Int) then manyL near l x + (manyL near l b + 1) else if x = b then manyL near l b + 1 else manyL near l x
theorem manyL_hit {near : Nat → Int} {b x : Nat} {l : List Nat} (h : near b = (x : Int)) : manyL near (b :: l) x = manyL near l x + (manyL near l b + 1) := by simp only [manyL]; rw [if_pos h]
theorem manyL_miss {near : Nat → Int} {b x : Nat} {l : List Nat} (h : near b ≠ (x : Int)) (hx : x ≠ b) : manyL near (b :: l) x = manyL near l x := by simp only [manyL]; rw [if_neg h, if_neg hx]
def ownL (near : Nat → Int) : List Nat → Nat → Nat
  | [], _ => 0
  | b :: l, c => if c = b then manyL near l b + 1 else ownL near l c
/-- Those under one come behind it. -/
def LaterC (near : Nat → Int) : List Nat → Prop
  | [] => True
  | b :: l => near b ≠ (b : Int) ∧ b ∉ l ∧ (∀ c ∈ l, near b ≠ (c : Int)) ∧ LaterC near l
theorem manyL_own {near : Nat → Int} : ∀ {l : List Nat}, LaterC near l → ∀ c ∈ l, manyL near l c = ownL near l c
  | [], _, c, hc => by simp at hc
  | b :: l, ⟨h1, h2, h3, h4⟩, c, hc => by
    simp only [manyL, ownL]
    by_cases e : c = b
    · subst e; rw [if_neg h1, if_pos rfl, if_pos rfl]
    · have hcl : c ∈ l := by simpa [e] using hc
      rw [if_neg (h3 c hcl), if_neg e, if_neg e]
      exact manyL_own h4 c hcl
theorem manyL_sum {near : Nat → Int} : ∀ {l : List Nat}, LaterC near l → ∀ p, p ∉ l → manyL near l p = sumC (ownL near l) near l p
  | [], _, p, _ => rfl
  | b :: l, ⟨h1, h2, h3, h4⟩, p, hp => by
    have hpb : p ≠ b := fun e => hp (by simp [e])
    have hpl : p ∉ l := fun e => hp (by simp [e])
    have hs : sumC (ownL near (b :: l)) near l p = sumC (ownL near l) near l p := sumC_congr fun c hc => by
      simp only [ownL]; rw [if_neg (fun e => h2 (by rw [← e]; exact hc))]
    simp only [manyL, sumC]
    rw [hs, ← manyL_sum h4 p hpl]
    by_cases e : near b = (p : Int)
    · rw [if_pos e, if_pos e]; simp only [ownL]; rw [if_pos trivial]; omega
    · rw [if_neg e, if_neg e, if_neg hpb]; omega
theorem LaterC.tail {near : Nat → Int} : ∀ {l l' : List Nat}, LaterC near (l ++ l') → LaterC near l'
  | [], _, h => h
  | _ :: l, l', ⟨_, _, _, h⟩ => LaterC.tail (l := l) h
theorem LaterC.front {near : Nat → Int} : ∀ {l l' : List Nat}, LaterC near (l ++ l') → ∀ d ∈ l, ∀ c ∈ l', near d ≠ (c : Int) ∧ d ≠ c
  | [], _, _, d, hd => by simp at hd
  | b :: l, l', ⟨_, h2, h3, h4⟩, d, hd => fun c hc => by
    rcases List.mem_cons.1 hd with rfl | hd
    · exact ⟨h3 c (by simp [hc]), fun e => h2 (by simp [e, hc])⟩
    · exact LaterC.front (l := l) h4 d hd c hc
theorem ownL_tail {near : Nat → Int} : ∀ {l l' : List Nat}, LaterC near (l ++ l') → ∀ c ∈ l', ownL near (l ++ l') c = ownL near l' c
  | [], _, _, c, _ => rfl
  | b :: l, l', h, c, hc => by
    have h5 := (LaterC.front (l := b :: l) h b (by simp) c hc).2
    show ownL near (b :: (l ++ l')) c = _
    simp only [ownL]
    rw [if_neg (fun e => h5 e.symm)]
    exact ownL_tail h.2.2.2 c hc
/-- Each has itself, and what those have that are right under it. -/
theorem many_eq {near : Nat → Int} {l : List Nat} (h : LaterC near l) {b : Nat} (hb : b ∈ l) : manyL near l b = 1 + sumC (manyL near l) near l b := by
  obtain ⟨pre, post, rfl⟩ := List.append_of_mem hb
  rw [manyL_own h b hb, ownL_tail h b (by simp)]
  have ht := LaterC.tail h
  simp only [ownL]
  rw [if_pos trivial, manyL_sum ht.2.2.2 b ht.2.1, sumC_append, sumC_zero (l := pre) (fun c hc => (LaterC.front h c hc b (by simp)).1)]
  simp only [sumC]
  rw [if_neg ht.1, sumC_congr (M := manyL near (pre ++ b :: post)) (M' := ownL near post) (fun c hc => ?_)]
  · omega
  · rw [manyL_own h c (by simp [hc]), show pre ++ b :: post = (pre ++ [b]) ++ post by simp]
    exact ownL_tail (by simpa using h) c hc
theorem sum_le {near : Nat → Int} : ∀ (l s : List Nat), LaterC near l → s.Nodup → (∀ x ∈ s, x ∉ l) → (s.map (manyL near l)).sum ≤ l.length
  | [], s, _, _, _ => by
    have : ∀ s : List Nat, (s.map (manyL near [])).sum = 0 := by
      intro s
      induction s with
      | nil => rfl
      | cons x s ih => rw [List.map_cons, List.sum_cons, ih]; rfl
    rw [this]; simp
  | b :: l, s, ⟨h1, h2, h3, h4⟩, hs, hd => by
    have hbs : b ∉ s := fun hb => hd b hb (by simp)
    have ih := sum_le l (b :: s) h4 (List.nodup_cons.2 ⟨hbs, hs⟩) (fun x hx => by
      rcases List.mem_cons.1 hx with rfl | hx
      · exact h2
      · exact fun hxl => hd x hx (by simp [hxl]))
    have key : ∀ t : List Nat, t.Nodup → b ∉ t → (t.map (manyL near (b :: l))).sum ≤ (t.map (manyL near l)).sum + (manyL near l b + 1) ∧ ((∀ x ∈ t, near b ≠ (x : Int)) → (t.map (manyL near (b :: l))).sum = (t.map (manyL near l)).sum) := by
      intro t
      induction t with
      | nil => intro _ _; simp
      | cons x t iht =>
        intro hn hb
        obtain ⟨hx, hn'⟩ := List.nodup_cons.1 hn
        have hxb : x ≠ b := fun e => hb (by simp [e])
        obtain ⟨i1, i2⟩ := iht hn' (fun h => hb (by simp [h]))
        simp only [List.map_cons, List.sum_cons]
        constructor
        · by_cases e : near b = (x : Int)
          · have := i2 (fun y hy e' => hx (by have : x = y := by omega
                                              rw [this]; exact hy))
            rw [this, manyL_hit e]; omega
          · rw [manyL_miss e hxb]; omega
        · intro hall
          rw [i2 (fun y hy => hall y (by simp [hy]))]
          rw [manyL_miss (hall x (by simp)) hxb]
    have := (key s hs hbs).1
    simp only [List.map_cons, List.sum_cons] at ih
    simp only [List.length_cons]
    omega
theorem many_le {near : Nat → Int} {l : List Nat} (h : LaterC near l) (b : Nat) : manyL near l b ≤ l.length := by
  by_cases hb : b ∈ l
  · obtain ⟨pre, post, rfl⟩ := List.append_of_mem hb
    rw [manyL_own h b hb, ownL_tail h b (by simp)]
    have ht := LaterC.tail h
    simp only [ownL]
    have := sum_le post [b] ht.2.2.2 (by simp) (by simpa using ht.2.1)
    simp at this ⊢
    omega
  · have := sum_le l [b] h (by simp) (by simpa using hb)
    simpa using this

/-! ### The numbers -/
structure NumI (near : Nat → Int) (M : Nat → Nat) (pre : List Nat) (nm en fre : Nat → Int) : Prop where
  out : ∀ b, b ∉ pre → nm b = -1 ∧ en b = -1
  ends : ∀ b ∈ pre, en b = nm b + (M b : Int) ∧ fre b = nm b + 1 + (sumC M near pre b : Int)
  top : ∀ b ∈ pre, near b < 0 → nm b = 0
  under : ∀ b ∈ pre, ∀ p : Nat, near b = (p : Int) → p ∈ pre ∧ ∃ p1 p2, pre = p1 ++ b :: p2 ∧ nm b = nm p + 1 + (sumC M near p1 p : Int)
theorem NumI.start (near : Nat → Int) (M : Nat → Nat) (fre : Nat → Int) : NumI near M [] (fun _ => -1) (fun _ => -1) fre :=
  ⟨fun _ _ => ⟨rfl, rfl⟩, fun b h => by simp at h, fun b h => by simp at h, fun b h => by simp at h⟩
theorem NumI.fre_under {near : Nat → Int} {M : Nat → Nat} {pre : List Nat} {nm en fre : Nat → Int} (h : NumI near M pre nm en fre) {p : Nat} (hp : p ∈ pre) : fre p = nm p + 1 + (sumC M near pre p : Int) := (h.ends p hp).2
/-- One more: under one that was numbered. -/
theorem NumI.step {near : Nat → Int} {M : Nat → Nat} {pre : List Nat} {nm en fre nm' en' fre' : Nat → Int} (h : NumI near M pre nm en fre) {b p : Nat} (hb : b ∉ pre) (hn : near b = (p : Int)) (hp : p ∈ pre)
    (hno : ∀ c ∈ pre ++ [b], near c ≠ (b : Int))
    (hnm : ∀ x, nm' x = if x = b then fre p else nm x) (hen : ∀ x, en' x = if x = b then fre p + (M b : Int) else en x)
    (hfr : ∀ x, x ∈ pre ++ [b] → fre' x = if x = b then fre p + 1 else if x = p then fre p + (M b : Int) else fre x) : NumI near M (pre ++ [b]) nm' en' fre' := by
  have hne : ∀ x ∈ pre, x ≠ b := fun x hx e => hb (e ▸ hx)
  refine ⟨fun x hx => ?_, fun x hx => ?_, fun x hx hx0 => ?_, fun x hx q hq => ?_⟩
  · have h1 : x ∉ pre := fun e => hx (by simp [e])
    have h2 : x ≠ b := fun e => hx (by simp [e])
    rw [hnm, hen, if_neg h2, if_neg h2]; exact h.out x h1
  · rw [hnm, hen, hfr x hx, sumC_append]
    by_cases e : x = b
    · subst e
      rw [if_pos rfl, if_pos rfl, if_pos rfl, sumC_zero (l := pre) (fun c hc => hno c (by simp [hc])), sumC_zero (l := [x]) (fun c hc => hno c (by simp [List.mem_singleton.1 hc]))]
      exact ⟨rfl, by simp⟩
    · have hxp : x ∈ pre := by simpa [e] using hx
      rw [if_neg e, if_neg e, if_neg e]
      refine ⟨(h.ends x hxp).1, ?_⟩
      simp only [sumC]
      by_cases ex : x = p
      · subst ex; rw [if_pos rfl, if_pos hn, (h.ends x hxp).2]; simp; omega
      · rw [if_neg ex, if_neg (by omega), (h.ends x hxp).2]; simp
  · by_cases e : x = b
    · subst e; omega
    · rw [hnm, if_neg e]; exact h.top x (by simpa [e] using hx) hx0
  · by_cases e : x = b
    · subst e
      have : q = p := by omega
      subst this
      refine ⟨by simp [hp], pre, [], by simp, ?_⟩
      rw [hnm, if_pos rfl, hnm, if_neg (hne q hp), (h.ends q hp).2]
    · have hxp : x ∈ pre := by simpa [e] using hx
      obtain ⟨h1, p1, p2, h2, h3⟩ := h.under x hxp q hq
      refine ⟨by simp [h1], p1, p2 ++ [b], by rw [h2]; simp, ?_⟩
      rw [hnm, if_neg e, hnm, if_neg (hne q h1)]; exact h3
/-- One more: the first one, under none. -/
theorem NumI.first {near : Nat → Int} {M : Nat → Nat} {pre : List Nat} {nm en fre nm' en' fre' : Nat → Int} (h : NumI near M pre nm en fre) {b : Nat} (hb : b ∉ pre) (hn : near b < 0)
    (hno : ∀ c ∈ pre ++ [b], near c ≠ (b : Int))
    (hnm : ∀ x, nm' x = if x = b then 0 else nm x) (hen : ∀ x, en' x = if x = b then (M b : Int) else en x)
    (hfr : ∀ x, x ∈ pre ++ [b] → fre' x = if x = b then 1 else fre x) : NumI near M (pre ++ [b]) nm' en' fre' := by
  have hne : ∀ x ∈ pre, x ≠ b := fun x hx e => hb (e ▸ hx)
  refine ⟨fun x hx => ?_, fun x hx => ?_, fun x hx hx0 => ?_, fun x hx q hq => ?_⟩
  · have h1 : x ∉ pre := fun e => hx (by simp [e])
    have h2 : x ≠ b := fun e => hx (by simp [e])
    rw [hnm, hen, if_neg h2, if_neg h2]; exact h.out x h1
  · rw [hnm, hen, hfr x hx, sumC_append]
    by_cases e : x = b
    · subst e
      rw [if_pos rfl, if_pos rfl, if_pos rfl, sumC_zero (l := pre) (fun c hc => hno c (by simp [hc])), sumC_zero (l := [x]) (fun c hc => hno c (by simp [List.mem_singleton.1 hc]))]
      exact ⟨by omega, by simp⟩
    · have hxp : x ∈ pre := by simpa [e] using hx
      rw [if_neg e, if_neg e, if_neg e]
      refine ⟨(h.ends x hxp).1, ?_⟩
      simp only [sumC]
      rw [if_neg (by omega), (h.ends x hxp).2]; simp
  · by_cases e : x = b
    · subst e; rw [hnm, if_pos rfl]
    · rw [hnm, if_neg e]; exact h.top x (by simpa [e] using hx) hx0
  · by_cases e : x = b
    · subst e; omega
    · have hxp : x ∈ pre := by simpa [e] using hx
      obtain ⟨h1, p1, p2, h2, h3⟩ := h.under x hxp q hq
      refine ⟨by simp [h1], p1, p2 ++ [b], by rw [h2]; simp, ?_⟩
      rw [hnm, if_neg e, hnm, if_neg (hne q h1)]; exact h3

variable {bs : List BlkD} {ord : Nat → Nat}
theorem near_of (N : NearB bs (nearD bs) ord) {b p : Nat} (hb : b < bs.length) (h : nearD bs b = (p : Int)) : p < bs.length ∧ p ≠ b ∧ dmB bs p b = true ∧ reachF bs b = true ∧ b ≠ 0 ∧ ord p < ord b ∧ ∀ c, c < bs.length → c ≠ b → dmB bs c b = true → dmB bs c p = true := by
  by_cases hr : fromB bs 0 (-1) b = false ∨ b = 0
  · have := N.none b hb hr; omega
  · have h0 : b ≠ 0 := fun e => hr (.inr e)
    have h1 : fromB bs 0 (-1) b = true := by
      cases h2 : fromB bs 0 (-1) b
      · exact absurd (.inl h2) hr
      · rfl
    obtain ⟨a, ha, he, hne, hd, hall⟩ := N.some b hb h1 h0
    have : a = p := by omega
    subst this
    have ho := N.ord a b ha hb hd
    refine ⟨ha, hne, hd, by rwa [from_reachD] at h1, h0, ?_, hall⟩
    have : ord a ≠ ord b := fun e => hne (ho.2 e)
    omega
theorem near_neg (N : NearB bs (nearD bs) ord) {b : Nat} (hb : b < bs.length) (hr : reachF bs b = true) (h : nearD bs b < 0) : b = 0 := by
  apply Classical.byContradiction
  intro h0
  obtain ⟨a, ha, he, -⟩ := N.some b hb (by rw [from_reachD]; exact hr) h0
  omega
theorem later_order (N : NearB bs (nearD bs) ord) : LaterC (nearD bs) (orderF bs) := by
  have key : ∀ (l pre : List Nat), orderF bs = pre ++ l → LaterC (nearD bs) l := by
    intro l
    induction l with
    | nil => intro _ _; trivial
    | cons b l ih =>
      intro pre he
      have hnd := orderF_nodup bs
      rw [he] at hnd
      have hb : b ∈ orderF bs := by rw [he]; simp
      have hblt := reachF_lt (orderF_mem.1 hb)
      refine ⟨fun e => (near_of N hblt e).2.1 rfl, (List.nodup_cons.1 (List.nodup_append.1 hnd).2.1).1, fun c hc e => ?_, ih (pre ++ [b]) (by rw [he]; simp)⟩
      obtain ⟨-, hne, hd, -⟩ := near_of N hblt e
      obtain ⟨j, hj⟩ := List.mem_iff_getElem?.1 hc
      refine orderF_behind (i := pre.length) (x := b) (a := c) (by rw [he]; simp) hd hne (pre.length + (j + 1)) (by omega) ?_
      rw [he, List.getElem?_append_right (by omega), show pre.length + (j + 1) - pre.length = j + 1 by omega]; simpa using hj
  exact key _ [] rfl
theorem NumI.ends_le (N : NearB bs (nearD bs) ord) {pre post : List Nat} {nm en fre : Nat → Int} (ho : orderF bs = pre ++ post)
    (h : NumI (nearD bs) (manyL (nearD bs) (orderF bs)) pre nm en fre) : ∀ (m b : Nat), ord b ≤ m → b ∈ pre → 0 ≤ nm b ∧ en b ≤ bs.length := by
  intro m
  induction m using Nat.strongRecOn with
  | _ m ih =>
    intro b hm hb
    have hbo : b ∈ orderF bs := by rw [ho]; simp [hb]
    have hblt := reachF_lt (orderF_mem.1 hbo)
    have hL := later_order N
    have hM := many_le hL b
    have hOl := orderF_len bs
    by_cases hn : nearD bs b < 0
    · have h1 := h.top b hb hn
      have h2 := (h.ends b hb).1
      omega
    · obtain ⟨p, hp⟩ : ∃ p : Nat, nearD bs b = (p : Int) := ⟨(nearD bs b).toNat, by omega⟩
      obtain ⟨hpp, p1, p2, e1, e2⟩ := h.under b hb p hp
      have hnr := near_of N hblt hp
      obtain ⟨i1, i2⟩ := ih (ord p) (by have := hnr.2.2.2.2.2.1; omega) p (Nat.le_refl _) hpp
      have hpo : p ∈ orderF bs := by rw [ho]; simp [hpp]
      have h3 := (h.ends b hb).1
      have h4 := (h.ends p hpp).1
      have h5 := many_eq hL hpo
      have h6 : sumC (manyL (nearD bs) (orderF bs)) (nearD bs) (orderF bs) p = sumC (manyL (nearD bs) (orderF bs)) (nearD bs) p1 p + (manyL (nearD bs) (orderF bs) b + sumC (manyL (nearD bs) (orderF bs)) (nearD bs) (p2 ++ post) p) := by
        have : sumC (manyL (nearD bs) (orderF bs)) (nearD bs) (orderF bs) p = sumC (manyL (nearD bs) (orderF bs)) (nearD bs) (p1 ++ b :: (p2 ++ post)) p := by rw [← show orderF bs = p1 ++ b :: (p2 ++ post) by rw [ho, e1]; simp]
        rw [this, sumC_append]
        simp only [sumC]
        rw [if_pos hp]
      omega
/-- What the next one's number and end come to is no more than there are blocks. -/
theorem NumI.next_le (N : NearB bs (nearD bs) ord) {pre post : List Nat} {nm en fre : Nat → Int} {b p : Nat} (ho : orderF bs = pre ++ b :: post)
    (h : NumI (nearD bs) (manyL (nearD bs) (orderF bs)) pre nm en fre) (hn : nearD bs b = (p : Int)) : p ∈ pre ∧ 0 ≤ fre p ∧ fre p + (manyL (nearD bs) (orderF bs) b : Int) ≤ bs.length := by
  have hbo : b ∈ orderF bs := by rw [ho]; simp
  have hblt := reachF_lt (orderF_mem.1 hbo)
  have hnr := near_of N hblt hn
  have hL := later_order N
  have hp : p ∈ pre := by
    obtain ⟨k, hk⟩ := List.mem_iff_getElem?.1 (orderF_dm (i := pre.length) (x := b) (by rw [ho]; simp) p hnr.2.2.1)
    have hkl : k < pre.length + 1 := by have := (List.getElem?_eq_some_iff.1 hk).1; simp at this; omega
    rw [List.getElem?_take_of_lt hkl, ho] at hk
    by_cases e : k = pre.length
    · subst e; simp at hk; exact absurd hk.symm hnr.2.1
    · rw [List.getElem?_append_left (by omega)] at hk
      exact List.mem_iff_getElem?.2 ⟨k, hk⟩
  have h1 := NumI.ends_le N (post := b :: post) ho h (ord p) p (Nat.le_refl _) hp
  obtain ⟨h2, h3⟩ := h.ends p hp
  have hpo : p ∈ orderF bs := by rw [ho]; simp [hp]
  have h5 := many_eq hL hpo
  have h6 : sumC (manyL (nearD bs) (orderF bs)) (nearD bs) (orderF bs) p = sumC (manyL (nearD bs) (orderF bs)) (nearD bs) pre p + (manyL (nearD bs) (orderF bs) b + sumC (manyL (nearD bs) (orderF bs)) (nearD bs) post p) := by
    have : sumC (manyL (nearD bs) (orderF bs)) (nearD bs) (orderF bs) p = sumC (manyL (nearD bs) (orderF bs)) (nearD bs) (pre ++ b :: post) p := by rw [← ho]
    rw [this, sumC_append]
    simp only [sumC]
    rw [if_pos hn]
  refine ⟨hp, by omega, by omega⟩

/-- THE LAW: a block's numbers go from its own on, up to its end. -/
structure NumE (bs : List BlkD) (nm en : Nat → Int) : Prop where
  eq : ∀ a b, a < bs.length → b < bs.length → (decide (nm a ≤ nm b) && decide (nm b < en a)) = dmB bs a b
  neg : ∀ b, b < bs.length → (nm b < 0 ↔ reachF bs b = false)
  lo : ∀ b, b < bs.length → -1 ≤ nm b ∧ nm b ≤ bs.length ∧ -1 ≤ en b ∧ en b ≤ bs.length
theorem NumI.all (N : NearB bs (nearD bs) ord) {nm en fre : Nat → Int} (h : NumI (nearD bs) (manyL (nearD bs) (orderF bs)) (orderF bs) nm en fre) : NumE bs nm en := by
  have hL := later_order N
  have hle := NumI.ends_le N (post := []) (by simp) h
  have hM : ∀ b ∈ orderF bs, 1 ≤ manyL (nearD bs) (orderF bs) b := fun b hb => by rw [many_eq hL hb]; omega
  -- one under another: within it
  have hin : ∀ b p : Nat, b ∈ orderF bs → nearD bs b = (p : Int) → p ∈ orderF bs ∧ nm p < nm b ∧ en b ≤ en p := by
    intro b p hb hp
    obtain ⟨hpp, p1, p2, e1, e2⟩ := h.under b hb p hp
    have h3 := (h.ends b hb).1
    have h4 := (h.ends p hpp).1
    have h5 := many_eq hL hpp
    have h6 : sumC (manyL (nearD bs) (orderF bs)) (nearD bs) (orderF bs) p = sumC (manyL (nearD bs) (orderF bs)) (nearD bs) p1 p + (manyL (nearD bs) (orderF bs) b + sumC (manyL (nearD bs) (orderF bs)) (nearD bs) p2 p) := by
      have : sumC (manyL (nearD bs) (orderF bs)) (nearD bs) (orderF bs) p = sumC (manyL (nearD bs) (orderF bs)) (nearD bs) (p1 ++ b :: p2) p := by rw [← e1]
      rw [this, sumC_append]
      simp only [sumC]
      rw [if_pos hp]
    exact ⟨hpp, by omega, by omega⟩
  -- two under one: apart
  have hap : ∀ a b p : Nat, a ∈ orderF bs → b ∈ orderF bs → a ≠ b → nearD bs a = (p : Int) → nearD bs b = (p : Int) → en a ≤ nm b ∨ en b ≤ nm a := by
    intro a b p ha hb hne hpa hpb
    have hnd := orderF_nodup bs
    obtain ⟨-, a1, a2, e1, e2⟩ := h.under a ha p hpa
    obtain ⟨-, b1, b2, e3, e4⟩ := h.under b hb p hpb
    have h3 := (h.ends a ha).1
    have h4 := (h.ends b hb).1
    rcases List.append_eq_append_iff.1 (e1.symm.trans e3) with ⟨c, h5, h6⟩ | ⟨c, h5, h6⟩
    · -- a ahead of b
      cases c with
      | nil => simp at h6; exact absurd h6.1 hne
      | cons x c =>
        have hx : x = a := by simp at h6; exact h6.1.symm
        subst hx
        left
        rw [h5, sumC_append] at e4
        simp only [sumC] at e4
        rw [if_pos hpa] at e4
        omega
    · cases c with
      | nil => simp at h6; exact absurd h6.1.symm hne
      | cons x c =>
        have hx : x = b := by simp at h6; exact h6.1.symm
        subst hx
        right
        rw [h5, sumC_append] at e2
        simp only [sumC] at e2
        rw [if_pos hpb] at e2
        omega
  have hpar : ∀ b ∈ orderF bs, b ≠ 0 → ∃ p : Nat, nearD bs b = (p : Int) := fun b hb h0 => by
    have hr := orderF_mem.1 hb
    have hblt := reachF_lt hr
    by_cases h1 : nearD bs b < 0
    · exact absurd (near_neg N hblt hr h1) h0
    · exact ⟨(nearD bs b).toNat, by omega⟩
  have hlt : ∀ b, b ∈ orderF bs → b < bs.length := fun b hb => reachF_lt (orderF_mem.1 hb)
  have hzero : ∀ a b, a < bs.length → b < bs.length → dmB bs a b = true → b = 0 → a = 0 := fun a b ha hb hd e => by
    subst e
    have h1 := N.ord a 0 ha hb hd
    have h2 := N.ord 0 a hb ha (N.first a ha (N.reach a 0 ha hb hd))
    exact h1.2 (by omega)
  -- what dominates: within
  have hdom : ∀ (m a b : Nat), ord b ≤ m → a ∈ orderF bs → b ∈ orderF bs → dmB bs a b = true → nm a ≤ nm b ∧ en b ≤ en a ∧ (a ≠ b → nm a < nm b) := by
    intro m
    induction m using Nat.strongRecOn with
    | _ m ih =>
      intro a b hm ha hb hd
      by_cases e : a = b
      · subst e; exact ⟨Int.le_refl _, Int.le_refl _, fun h => absurd rfl h⟩
      · have h0 : b ≠ 0 := fun e0 => e (by rw [hzero a b (hlt a ha) (hlt b hb) hd e0, e0])
        obtain ⟨p, hp⟩ := hpar b hb h0
        obtain ⟨hpo, i1, i2⟩ := hin b p hb hp
        obtain ⟨-, -, -, -, -, ho, hall⟩ := near_of N (hlt b hb) hp
        obtain ⟨j1, j2, -⟩ := ih (ord p) (by omega) a p (Nat.le_refl _) ha hpo (hall a (hlt a ha) e hd)
        exact ⟨by omega, by omega, fun _ => by omega⟩
  -- what doesn't, either way: apart
  have hfar : ∀ (m a b : Nat), ord a + ord b ≤ m → a ∈ orderF bs → b ∈ orderF bs → dmB bs a b = false → dmB bs b a = false → en a ≤ nm b ∨ en b ≤ nm a := by
    intro m
    induction m using Nat.strongRecOn with
    | _ m ih =>
      intro a b hm ha hb h1 h2
      have ha0 : a ≠ 0 := fun e => by subst e; rw [N.first b (hlt b hb) (by rw [from_reachD]; exact orderF_mem.1 hb)] at h1; cases h1
      have hb0 : b ≠ 0 := fun e => by subst e; rw [N.first a (hlt a ha) (by rw [from_reachD]; exact orderF_mem.1 ha)] at h2; cases h2
      have hab : a ≠ b := fun e => by subst e; rw [N.self a (hlt a ha) (by rw [from_reachD]; exact orderF_mem.1 ha)] at h1; cases h1
      obtain ⟨p, hp⟩ := hpar a ha ha0
      obtain ⟨q, hq⟩ := hpar b hb hb0
      obtain ⟨hpo, i1, i2⟩ := hin a p ha hp
      obtain ⟨hqo, j1, j2⟩ := hin b q hb hq
      obtain ⟨-, hpne, hpd, -, -, hpr, hpall⟩ := near_of N (hlt a ha) hp
      obtain ⟨-, hqne, hqd, -, -, hqr, hqall⟩ := near_of N (hlt b hb) hq
      cases hpb : dmB bs p b
      · cases hbp : dmB bs b p
        · rcases ih (ord p + ord b) (by omega) p b (Nat.le_refl _) hpo hb hpb hbp with h3 | h3
          · left; omega
          · right; omega
        · rw [N.trans b p a hbp hpd] at h2; cases h2
      · have hpnb : p ≠ b := fun e => by subst e; rw [hpd] at h2; cases h2
        have hpq := hqall p (hlt p hpo) hpnb hpb
        by_cases e : p = q
        · subst e; exact hap a b p ha hb hab hp hq
        · cases haq : dmB bs a q
          · cases hqa : dmB bs q a
            · rcases ih (ord a + ord q) (by omega) a q (Nat.le_refl _) ha hqo haq hqa with h3 | h3
              · left; omega
              · right; omega
            · exfalso
              have hqna : q ≠ a := fun e' => by subst e'; rw [hqd] at h1; cases h1
              have hqp := hpall q (hlt q hqo) hqna hqa
              have o1 := N.ord p q (hlt p hpo) (hlt q hqo) hpq
              have o2 := N.ord q p (hlt q hqo) (hlt p hpo) hqp
              exact e (o1.2 (by omega))
          · rw [N.trans a q b haq hqd] at h1; cases h1
  have hpos : ∀ b ∈ orderF bs, 0 ≤ nm b ∧ nm b < en b ∧ en b ≤ bs.length := fun b hb => by
    have h1 := hle (ord b) b (Nat.le_refl _) hb
    have h2 := (h.ends b hb).1
    have h3 := hM b hb
    omega
  refine ⟨fun a b ha hb => ?_, fun b hb => ?_, fun b hb => ?_⟩
  · by_cases hao : a ∈ orderF bs
    · by_cases hbo : b ∈ orderF bs
      · have pa := hpos a hao
        have pb := hpos b hbo
        cases hd : dmB bs a b
        · cases hd2 : dmB bs b a
          · rcases hfar (ord a + ord b) a b (Nat.le_refl _) hao hbo hd hd2 with h3 | h3
            · rw [Bool.and_eq_false_iff]; right; exact decide_eq_false (by omega)
            · rw [Bool.and_eq_false_iff]; left; exact decide_eq_false (by omega)
          · have hne : b ≠ a := fun e => by subst e; rw [hd] at hd2; cases hd2
            have := (hdom (ord a) b a (Nat.le_refl _) hbo hao hd2).2.2 hne
            rw [Bool.and_eq_false_iff]; left; exact decide_eq_false (by omega)
        · have := hdom (ord b) a b (Nat.le_refl _) hao hbo hd
          rw [Bool.and_eq_true]
          exact ⟨decide_eq_true (by omega), decide_eq_true (by omega)⟩
      · have h1 := h.out b hbo
        have pa := hpos a hao
        have : dmB bs a b = false := by
          cases hd : dmB bs a b
          · rfl
          · exact absurd (orderF_mem.2 (by have := dm_reach hd; rwa [from_reachD] at this)) hbo
        rw [this, Bool.and_eq_false_iff]; left; exact decide_eq_false (by omega)
    · have h1 := h.out a hao
      have : dmB bs a b = false := by
        cases hd : dmB bs a b
        · rfl
        · exact absurd (orderF_mem.2 (by have := N.reach a b ha hb hd; rwa [from_reachD] at this)) hao
      rw [this, Bool.and_eq_false_iff]; 
      by_cases hbo : b ∈ orderF bs
      · right; have := hpos b hbo; exact decide_eq_false (by omega)
      · right; have := h.out b hbo; exact decide_eq_false (by omega)
  · by_cases hbo : b ∈ orderF bs
    · have := hpos b hbo
      have h2 := orderF_mem.1 hbo
      exact ⟨fun h => by omega, fun h => by rw [h2] at h; cases h⟩
    · have := h.out b hbo
      refine ⟨fun _ => ?_, fun _ => by omega⟩
      cases hr : reachF bs b
      · rfl
      · exact absurd (orderF_mem.2 hr) hbo
  · by_cases hbo : b ∈ orderF bs
    · have := hpos b hbo; omega
    · have := h.out b hbo; omega
end Go.Proofs.Ytflbooopgjgkbaa

/- A region that draws its order, in the body of a range over a function: walked as anywhere. Over any program. -/
namespace Go.Proofs.Ytflbooopgjgkbaa
open Go
set_option linter.unusedVariables false

section
variable {P : Program} {ops : Array Oper} {Q : Exit → Act → World → Prop} {md : Region.Mode} {S : World → Prop} {n l : Nat}

/-- No operation is a defer statement. -/
def noDefer (ops : Array Oper) : Bool := ops.all fun o => match o.op with | .defer _ => false | _ => true
theorem noDefer_at (h : noDefer ops = true) {i : Nat} {o : Oper} (ho : ops[i]? = some o) : ∀ c, o.op ≠ .defer c := by
  intro c hc
  unfold noDefer at h
  have h1 := Array.all_eq_true.1 h i (Array.getElem?_eq_some_iff.1 ho).1
  rw [(Array.getElem?_eq_some_iff.1 ho).2, hc] at h1
  cases h1
theorem upon_in {o : Oper} {a : Act} {K : Act → World → Prop} {r : Result Next} (h : o.upon P a K Q r) : o.uponIn (Fence.wide.inRound l) n P a K Q r := by
  cases r with
  | ok x w' =>
    cases x <;> simp only [Oper.upon, Oper.uponIn] at h ⊢ <;> try exact h
    case enter f args => exact ⟨fun h => by simp [Fence.inRound, Fence.wide] at h, CallsIn.inRound l (callsIn_wide.2 h)⟩
    case row row args =>
      refine ⟨fun h => by simp [Fence.inRound, Fence.wide] at h, fun c cs _ => ?_⟩
      obtain ⟨v, w1, h1, h2⟩ := h c cs
      exact ⟨v, w1, h1, stepsIn_wide.2 h2⟩
  | halt x w' => cases x <;> simp only [Oper.upon, Oper.uponIn] at h ⊢ <;> exact h
theorem wp_in {o : Oper} (hd : ∀ c, o.op ≠ .defer c) {a : Act} {w : World} {K : Act → World → Prop} (h : o.wp P a w K Q) : o.wpIn (Fence.wide.inRound l) n P a w K Q := by
  refine ⟨fun _ _ => trivial, ?_⟩
  rw [Oper.semAt_eq _ _ _ hd]
  exact upon_in h
theorem wpOp_in (hnd : noDefer ops = true) (hQ : ¬ LetsOut Q) {i : Nat} {K : Act → World → Prop} {a : Act} {w : World} (h : wpOp P ops Q i K a w) : wpOpIn (Fence.wide.inRound l) n P ops Q i K a w := by
  unfold wpOp at h
  unfold wpOpIn
  split
  · rename_i ho; simp only [ho] at h; exact h
  · rename_i o ho
    simp only [ho] at h
    split
    · rename_i hw
      rw [if_pos hw] at h
      rcases h with h | h
      · exact wp_in (noDefer_at hnd ho) h
      · exact absurd h.2 hQ
    · rename_i hw
      rw [if_neg hw] at h
      exact ⟨fun _ _ => trivial, h⟩
theorem wpAny_in (hnd : noDefer ops = true) (hQ : ¬ LetsOut Q) : ∀ (fuel : Nat) (listed : Array Bool) (a : Act) (w : World), wpAny P md ops Q fuel listed a w → wpAnyIn (Fence.wide.inRound l) n P md ops Q fuel listed a w
  | 0, _, _, _, h => h
  | fuel + 1, listed, a, w, h => ⟨h.1, fun i hi => wpOp_in hnd hQ (wpOp_mono (fun a' w' h' => wpAny_in hnd hQ fuel _ a' w' h') (h.2 i hi))⟩
/-- THE LAW: a region in a round. -/
theorem wpIn_round_any {id : Nat} {a : Act} {w : World} (hm : P.follows .mixedOrders = true) (hnd : noDefer ops = true) (hQ : ¬ LetsOut Q)
    (h : wpAny P .any ops Q ops.size (Array.replicate ops.size false) a { w with drawn := w.drawn + 1 }) : (Code.region id ops true).wpIn (Fence.wide.inRound l) n P Q a w :=
  wpIn_region_any hm (wpAny_in hnd hQ _ _ _ _ h)
/-- .. by a condition that each keeps. -/
theorem wpIn_round_held {id : Nat} {a : Act} {w : World} (hm : P.follows .mixedOrders = true) (hnd : noDefer ops = true) (hQ : ¬ LetsOut Q)
    (h : wpAnyH P .any ops Q S ops.size (Array.replicate ops.size false) a { w with drawn := w.drawn + 1 }) : (Code.region id ops true).wpIn (Fence.wide.inRound l) n P Q a w :=
  wpIn_round_any hm hnd hQ (wpAny_of_held _ _ _ _ h)
/-- .. whose last operation waits for all others. -/
theorem wpIn_round_last {id L : Nat} {a : Act} {w : World} (hm : P.follows .mixedOrders = true) (hsz : ops.size = L + 1) (hnd : noDefer ops = true) (hQ : ¬ LetsOut Q) (hd : downB .any ops = true) (hf : feedsB .any ops L = true)
    (h : wpAnyH P .any ops (LastQ P ops Q L) S L ((Array.replicate ops.size false).setIfInBounds L true) a { w with drawn := w.drawn + 1 }) : (Code.region id ops true).wpIn (Fence.wide.inRound l) n P Q a w := by
  refine wpIn_round_any hm hnd hQ ?_
  have h2 := wpAny_last (md := .any) (Q := Q) (S := S) hsz hd hf L (Array.replicate ops.size false) a { w with drawn := w.drawn + 1 } (by simp) (fun i o ho hi => ?_) (by simp [Array.getD, hsz]) h
  · rwa [← hsz] at h2
  · have hlt := (Array.getElem?_eq_some_iff.1 ho).1
    simp [Array.getD, hlt] at hi
/-- A region in its own order. -/
theorem wpIn_round_list {id : Nat} {a : Act} {w : World} (h : ops.toList.all (fun o => match o.op with | .defer _ => false | _ => true) = true) (hQ : ¬ LetsOut Q) (k : wpOps P ops Q (List.range ops.size) a w) : (Code.region id ops false).wpIn (Fence.wide.inRound l) n P Q a w := by
  refine wpIn_region ?_
  have hnd : noDefer ops = true := by unfold noDefer; rw [← Array.all_toList]; exact h
  have key : ∀ (is : List Nat) (a : Act) (w : World), wpOps P ops Q is a w → wpOpsIn (Fence.wide.inRound l) n P ops Q is a w := by
    intro is
    induction is with
    | nil => exact fun a w h => h
    | cons i is ih =>
      intro a w h
      rw [wpOpsIn_cons]
      rw [wpOps_cons] at h
      exact wpOp_in hnd hQ (wpOp_mono (fun a' w' h' => ih a' w' h') h)
  exact key _ _ _ k
end

/-- What is left off its end alone. -/
def onlyN (Q : Exit → Act → World → Prop) : Exit → Act → World → Prop
  | .normal, a, w => Q .normal a w
  | _, _, _ => False
theorem wp_onlyN {P : Program} {c : Code} {Q : Exit → Act → World → Prop} {a : Act} {w : World} (h : c.wp P (onlyN Q) a w) : c.wp P Q a w :=
  (wpIn_wide (n := 0)).1 (wpIn_mono ((wpIn_wide (n := 0)).2 h) fun e a' w' hq => by
    cases e with
    | normal => exact hq
    | _ => exact hq.elim)

/-- Any of some may come up. -/
theorem manyH {P : Program} {ops : Array Oper} {Q : Exit → Act → World → Prop} {md : Region.Mode} {S : World → Prop} {rs : List Nat} {fuel : Nat} {listed : Array Bool} {a : Act} {w : World} (hr : Region.ready md ops listed = rs) (hne : rs ≠ [])
    (h : ∀ i ∈ rs, ∀ o, ops[i]? = some o → ∀ K : Act → World → Prop, RowKit.Hid (∀ a' w', S w' → wpAnyH P md ops Q S fuel (listed.setIfInBounds i true) a' w' → K a' w') → if Region.wanted o (yielded ops a.tmps) = true then Oper.wp P o a w K Q else K (a.put o.dst undef) w) :
    wpAnyH P md ops Q S (fuel + 1) listed a w := by
  refine wpAnyH_all hr hne fun k hk => ?_
  unfold wpOp
  split
  · rename_i ho
    have : k ∈ Region.ready md ops listed := by rw [hr]; exact hk
    obtain ⟨_, o, ho', _⟩ := mem_ready.1 this
    rw [ho] at ho'; cases ho'
  · rename_i o ho
    have := h k hk o ho (fun a' w' => S w' ∧ wpAnyH P md ops Q S fuel (listed.setIfInBounds k true) a' w') (Lib.hid (fun a' w' h1 h2 => ⟨h1, h2⟩))
    split
    · rename_i hw; rw [if_pos hw] at this; exact .inl this
    · rename_i hw; rw [if_neg hw] at this; exact this
/-- A piece of code by what it leaves. -/
theorem wp_named {P : Program} {c : Code} {Q : Exit → Act → World → Prop} {a : Act} {w : World} (R : Act → Act → World → Prop) (h1 : c.wp P (onlyN fun _ a' w' => R a a' w') a w) (h2 : ∀ a' w', R a a' w' → Q .normal a' w') : c.wp P Q a w :=
  wp_onlyN (wp_mono h1 fun e a' w' hq => by
    cases e with
    | normal => exact h2 a' w' hq
    | _ => exact hq.elim)

theorem wpIn_named {F : Fence} {n : Nat} {P : Program} {c : Code} {Q : Exit → Act → World → Prop} {a : Act} {w : World} (R : Act → Act → World → Prop) (h1 : c.wpIn F n P (onlyN fun _ a' w' => R a a' w') a w) (h2 : ∀ a' w', R a a' w' → Q .normal a' w') : c.wpIn F n P Q a w :=
  wpIn_mono h1 fun e a' w' hq => by
    cases e with
    | normal => exact h2 a' w' hq
    | _ => exact hq.elim
theorem onlyN_lets {Q : Exit → Act → World → Prop} : ¬ LetsOut (onlyN Q) := fun ⟨_, _, h⟩ => h

/-! ### A range over a function whose rounds are counted: the k-th round is given the k-th values, and none leaves the loop -/
/-- The blocks of X stay as they are. -/
def KeepX (X : Nat → Prop) (W W' : World) : Prop := ∀ k, X k → W'.heap[k]? = W.heap[k]?
theorem keepX_t {X : Nat → Prop} {A B C : World} (h : KeepX X A B) (k : KeepX X B C) : KeepX X A C := fun b hb => (k b hb).trans (h b hb)
theorem keepX_refl (X : Nat → Prop) (W : World) : KeepX X W W := fun _ _ => rfl
theorem KeepX.cell {X : Nat → Prop} {W W' : World} (h : KeepX X W W') {p : Addr} (hp : X p.block) : W'.cell? p = W.cell? p := World.cell?_of_block (h _ hp)
theorem keepX_b {X : Nat → Prop} {n : Nat} (hX : ∀ k, X k → k < n) (W : World) (l : Nat) (o' : Obj) (hl : n ≤ l) : KeepX X W (W.putObj l o') := fun k hk => World.putObj_heap_other (by have := hX k hk; omega)
/-- The iterator's contract: N rounds, one behind the other. -/
def SeqN (P : Program) (gf : Nat) (lb : Array Value) (encs : Nat → Array Value) (X : Nat → Prop) (N : Nat) (w : World) : Prop :=
  ∀ (l : Nat) (J : Nat → World → Prop) (W : World), RowKit.Below w.heap.size w W →
    (∀ k W1, J k W1 → k < N → YieldAt Fence.wide 2 P l (encs k) W1 fun e W' => e = .returned (.bool true) ∧ J (k + 1) W' ∧ KeepX X W1 W') → J 0 W →
    CallsIn Fence.wide 3 P gf (#[.func (.yield l) #[] #[]] ++ lb) W fun e W' => (∃ v, e = .returned v) ∧ J N W'
/-- How the body of a round is left: off its end. -/
def endN (B : Nat) (X : Nat → Prop) (I : World → Prop) (W : World) : Exit → Act → World → Prop
  | .normal, _, W' => KeepsFrom B W W' ∧ KeepX X W W' ∧ I W'
  | _, _, _ => False
theorem endN_lets {B : Nat} {X : Nat → Prop} {I : World → Prop} {W : World} : ¬ LetsOut (endN B X I W) := fun ⟨_, _, h⟩ => h
/-- What speaks of the loop's own blocks alone not. -/
def Apart (B : Nat) (I : Nat → World → Prop) : Prop := ∀ k W l o', I k W → B ≤ l → (∃ o, W.heap[l]? = some o ∧ o.isCells = false) → I k (W.putObj l o')

theorem rangeN {P : Program} {g : Operand} {ps : Array Tmp} {assign body : Code} {Q : Exit → Act → World → Prop} {a : Act} {w : World} {gf : Nat} {lb : Array Value}
    (hg : a.eval g = .func (.func gf) #[] lb) (eg : ∀ args w, (callFunc gf args).run P w = .ok (.enter gf args) w) {encs : Nat → Array Value} {X : Nat → Prop} {N : Nat}
    (hseq : SeqN P gf lb encs X N w) (hX : ∀ k, X k → k < w.heap.size) (hps : ∀ x, (encs x).size = ps.size)
    (I : Nat → World → Prop) (hI : Apart w.heap.size I) (h0 : ∀ W, RowKit.Below w.heap.size w W → I 0 W) (a₁ : Nat → Act)
    (hassign : ∀ (l k : Nat) (W : World) (K : Act → World → Prop), K (a₁ k) W → assign.wpIn (Fence.wide.inRound l) 2 P (Exit.then K (fun _ _ _ => False)) { tmps := (ps.zip (encs k)).foldl (fun t (p, v) => t.setIfInBounds p v) a.tmps, defers := [] } W)
    (hbody : ∀ (l k : Nat) (W : World), I k W → k < N → body.wpIn (Fence.wide.inRound l) 2 P (endN w.heap.size X (I (k + 1)) W) (a₁ k) W)
    (hdone : ∀ (D : Nat) (W : World), w.heap.size ≤ D → I N W → W.heap[D]? = some (.deferred (some [])) → Q .normal { a with defers := { target := .collected D, args := #[] } :: a.defers } W) :
    (Code.rangeFunc g ps assign body).wp P Q a w := by
  refine (wpIn_wide (n := 4)).1 (wpIn_rangeFunc fun fn _ => ?_)
  -- the loop's record, in each of its states
  obtain ⟨rec, hrec⟩ : ∃ rec : LoopState → Loop, rec = fun st => { state := st, pending := none, fn, tmps := a.tmps, params := ps, assign, body, defers := w.heap.size } := ⟨_, rfl⟩
  obtain ⟨L, hL⟩ : ∃ L, L = w.heap.size + 1 := ⟨_, rfl⟩
  obtain ⟨W1, hW1⟩ : ∃ W1, (w.alloc (.deferred (some []))).alloc (.loop (rec .ready)) = W1 := ⟨_, rfl⟩
  have hl1 : W1.heap[L]? = some (.loop (rec .ready)) := by rw [← hW1, hL, show w.heap.size + 1 = (w.alloc (.deferred (some []))).heap.size by simp]; exact World.alloc_heap_new _ _
  have hd1 : W1.heap[w.heap.size]? = some (.deferred (some [])) := by
    rw [← hW1]; exact (RowKit.Below.heap_alloc _ _ _ (by simp)).trans (World.alloc_heap_new w _)
  have hb1 : RowKit.Below w.heap.size w W1 := by rw [← hW1]; exact ((RowKit.Below.refl _ w).alloc (Nat.le_refl _) _).alloc (by simp) _
  refine ⟨L, [{ target := .collected w.heap.size, args := #[] }], W1, { target := .fn (.func gf) lb, args := #[.func (.yield L) #[] #[]] }, W1, gf, #[.func (.yield L) #[] #[]] ++ lb, W1, ?_, ?_, fun _ _ => trivial, ?_, fun h => by simp [Fence.wide] at h, ?_⟩
  · have := run_enterLoop_outer (P := P) (w := w) fn a.tmps ps assign body
    rw [← hW1, hL, hrec]; exact this
  · simp only [resolve, hg]; simp [go_sem]
  · simp [invoke, go_sem, eg]
  refine (hseq L (fun k W => I k W ∧ W.heap[L]? = some (.loop (rec .ready)) ∧ W.heap[w.heap.size]? = some (.deferred (some []))) W1 hb1 ?_ ⟨h0 W1 hb1, hl1, hd1⟩).mono ?_
  · rintro k W ⟨hi, hl, hd⟩ hk
    have hyl := run_yield (P := P) (args := encs k) hl (by rw [hrec]; exact hps k)
    rw [hrec] at hyl
    -- the record is busy while the round goes on
    obtain ⟨W2, hW2⟩ : ∃ W2, W.putObj L (.loop (rec .busy)) = W2 := ⟨_, rfl⟩
    have hbr : (Instr.beginRound L).run P W = .ok () W2 := by
      have := run_beginRound (P := P) hl (by rw [hrec])
      rw [← hW2, hrec]; rw [hrec] at this; exact this
    have hlt : L < W.heap.size := (Array.getElem?_eq_some_iff.1 hl).1
    have hl2 : W2.heap[L]? = some (.loop (rec .busy)) := by rw [← hW2]; exact World.putObj_heap_same hlt
    have hd2 : W2.heap[w.heap.size]? = some (.deferred (some [])) := by rw [← hW2]; exact (World.putObj_heap_other (by omega)).trans hd
    have hi2 : I k W2 := by rw [← hW2]; exact hI _ _ _ _ hi (by omega) ⟨_, hl, rfl⟩
    have hx2 : KeepX X W W2 := by rw [← hW2]; exact keepX_b hX _ _ _ (by omega)
    refine ⟨fn, _, assign, body, hyl, roundIn_of_wpIn trivial (hassign _ k W _ ⟨W2, hbr, ?_⟩)⟩
    refine wpIn_mono (hbody L k W2 hi2 hk) ?_
    rintro e a3 W3 hp
    cases e with
    | normal =>
      obtain ⟨hk3, hx3, hi3⟩ := hp
      have hl3 := hk3.same L _ (by omega) hl2 rfl
      have hd3 := hk3.same w.heap.size _ (Nat.le_refl _) hd2 rfl
      have her := run_endRound (P := P) none hl3
      have hlt3 : L < W3.heap.size := (Array.getElem?_eq_some_iff.1 hl3).1
      rw [hrec] at her
      refine ⟨_, _, her, rfl, ⟨hI _ _ _ _ hi3 (by omega) ⟨_, hl3, rfl⟩, ?_, (World.putObj_heap_other (by omega)).trans hd3⟩, keepX_t (keepX_t hx2 hx3) (keepX_b hX _ _ _ (by omega))⟩
      rw [hrec]; exact World.putObj_heap_same hlt3
    | _ => exact hp.elim
  · rintro e W2 ⟨⟨v, rfl⟩, hi, hl, hd⟩
    have hel := run_endLoop (P := P) hl (by rw [hrec]; simp)
    rw [hrec] at hel
    exact ⟨none, _, hel, hdone _ _ (Nat.le_refl _) (hI _ _ _ _ hi (by omega) ⟨_, hl, rfl⟩) ((World.putObj_heap_other (by omega)).trans hd)⟩
end Go.Proofs.Ytflbooopgjgkbaa
