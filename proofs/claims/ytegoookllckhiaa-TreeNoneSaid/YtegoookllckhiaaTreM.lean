/-
  Tables and pages as one family of numbers: what a way down is, how many tables there are, and what a Set makes of it on its way up. Nothing of the program is named here.
  Conditions: none beside those that each line bears.
-/
import Derived.Test.YtegoookllckhiaaTreS
import Derived.Test.YtegoookllckhiaaRunP
namespace Go.Proofs.Ytegoookllckhiaa
open Go.RowKit
set_option linter.unusedVariables false

/-- How many pages a number of a level leads to. -/
def dv : Nat → Nat
  | 0 => 4096
  | 1 => 512
  | 2 => 64
  | 3 => 8
  | _ => 1
theorem four {l : Nat} (h : l < 4) : l = 0 ∨ l = 1 ∨ l = 2 ∨ l = 3 := by omega
theorem dv_div (page : Nat) {l : Nat} (h : l < 4) : page / dv l = page / dv (l + 1) / 8 := by
  rcases four h with rfl | rfl | rfl | rfl <;> simp only [dv, Nat.div_div_eq_div_mul]
theorem way_child (page : Nat) {l q j : Nat} (h : l < 4) (hj : j < 8) (e : 8 * q + j = page / dv (l + 1)) : q = page / dv l := by
  rw [dv_div page h, ← e]
  omega
theorem way_digit (page : Nat) {l : Nat} (h : l < 4) : 8 * (page / dv l) + page / dv (l + 1) % 8 = page / dv (l + 1) := by
  rw [dv_div page h]
  omega
theorem dv4 (page : Nat) : page / dv 4 = page := Nat.div_one page
theorem dv0 {page : Nat} (h : page < 4096) : page / dv 0 = 0 := Nat.div_eq_of_lt h

/-- The numbers: g l q leads to table q of level l (its frame and one more, or 0: there is none); g 4 p is what page p has. The first k tables on the way to page may have nothing. -/
structure Nod (g : Nat → Nat → Nat) (t : Nat → Prop) (page k : Nat) : Prop where
  root : g 0 0 ≠ 0
  out : ∀ q, g 0 q ≠ 0 → q = 0
  le : ∀ l q, l < 4 → g l q ≤ 1024
  mem : ∀ f, t f ↔ ∃ l q, l < 4 ∧ g l q = f + 1
  inj : ∀ l q l' q', l < 4 → l' < 4 → g l q = g l' q' → g l q ≠ 0 → l = l' ∧ q = q'
  up : ∀ l q, l < 4 → g (l + 1) q ≠ 0 → g l (q / 8) ≠ 0
  some : ∀ l q, 0 < l → l < 4 → g l q ≠ 0 → ¬ (l < k ∧ q = page / dv l) → ∃ j, j < 8 ∧ g (l + 1) (8 * q + j) ≠ 0
/-- A table's number at a place. -/
def numJ (xs : List Nat) (j : Nat) : Nat := le (win xs (8 * j) 8)
/-- Each table has its numbers, but for those of the first k on the way that lead on. -/
def Con (g : Nat → Nat → Nat) (F : Nat → List Nat) (page k : Nat) : Prop :=
  ∀ l q f j, l < 4 → g l q = f + 1 → j < 8 → (l < k → 8 * q + j ≠ page / dv (l + 1)) → numJ (F f) j = g (l + 1) (8 * q + j)
theorem numJ_zer (j : Nat) (h : j < 8) : numJ zer j = 0 := by
  unfold numJ
  rw [win_zero zer (8 * j) 8 (by rw [zer_length]; omega) (fun i _ _ => by
    unfold zer
    rw [List.getD_eq_getElem?_getD, List.getElem?_replicate]
    split <;> rfl)]
  exact (le_zeros [] 8).trans rfl
theorem numJ_over {xs : List Nat} (hx : xs.length = 64) {d v j : Nat} (hd : d < 8) (hv : v < 18446744073709551616) (hj : j < 8) : numJ (over xs (8 * d) (numL v 8)) j = if j = d then v else numJ xs j := by
  have hl : 8 * d + (numL v 8).length ≤ xs.length := by rw [numL_length]; omega
  have ho := over_length xs (8 * d) (numL v 8) hl
  unfold numJ
  by_cases c : j = d
  · subst c
    rw [if_pos rfl]
    have e : win (over xs (8 * j) (numL v 8)) (8 * j) 8 = numL v 8 := by
      refine listN_ext (by rw [win_length _ _ _ (by rw [ho]; omega), numL_length]) fun i hi => ?_
      rw [win_length _ _ _ (by rw [ho]; omega)] at hi
      rw [win_getD _ _ _ _ hi, over_getD _ _ _ hl]
      rw [if_pos (by rw [numL_length]; omega), show 8 * j + i - 8 * j = i by omega]
    rw [e, le_numL_lt _ _ (by simpa using hv)]
  · rw [if_neg c]
    have e : win (over xs (8 * d) (numL v 8)) (8 * j) 8 = win xs (8 * j) 8 := by
      refine listN_ext (by rw [win_length _ _ _ (by rw [ho]; omega), win_length _ _ _ (by omega)]) fun i hi => ?_
      rw [win_length _ _ _ (by rw [ho]; omega)] at hi
      rw [win_getD _ _ _ _ hi, win_getD _ _ _ _ hi, over_getD _ _ _ hl]
      rw [if_neg (by rw [numL_length]; omega)]
    rw [e]

section
variable {g : Nat → Nat → Nat} {t : Nat → Prop} {page k : Nat}
theorem Nod.lt (h : Nod g t page k) {f : Nat} (hf : t f) : f < 1024 := by
  obtain ⟨l, q, hl, e⟩ := (h.mem f).1 hf
  have := h.le l q hl
  omega
theorem Nod.up_ (h : Nod g t page k) {l : Nat} (hl : l < 4) (hz : g l (page / dv l) = 0) : g (l + 1) (page / dv (l + 1)) = 0 := by
  rcases Nat.eq_zero_or_pos (g (l + 1) (page / dv (l + 1))) with e | e
  · exact e
  · have := h.up l _ hl (Nat.pos_iff_ne_zero.1 e)
    rw [← dv_div page hl] at this
    exact absurd hz this
/-- The tables that there are on the way to a page: the first so many. -/
theorem Nod.way (h : Nod g t page k) (hp : page < 4096) : ∃ L, 1 ≤ L ∧ L ≤ 4 ∧ (∀ l, l < L → g l (page / dv l) ≠ 0) ∧ (∀ l, L ≤ l → l < 4 → g l (page / dv l) = 0) ∧ (L < 4 → g 4 page = 0) := by
  have h0 : g 0 (page / dv 0) ≠ 0 := by rw [dv0 hp]; exact h.root
  have u1 := h.up_ (l := 1) (by omega)
  have u2 := h.up_ (l := 2) (by omega)
  have u3 := h.up_ (l := 3) (by omega)
  rw [dv4] at u3
  by_cases c1 : g 1 (page / dv 1) = 0
  · exact ⟨1, by omega, by omega, fun l hl => by obtain rfl : l = 0 := by omega
                                                 exact h0, fun l h1 h2 => by
      rcases four h2 with rfl | rfl | rfl | rfl
      · omega
      · exact c1
      · exact u1 c1
      · exact u2 (u1 c1), fun _ => u3 (u2 (u1 c1))⟩
  · by_cases c2 : g 2 (page / dv 2) = 0
    · exact ⟨2, by omega, by omega, fun l hl => by
        rcases four (show l < 4 by omega) with rfl | rfl | rfl | rfl
        · exact h0
        · exact c1
        · omega
        · omega, fun l h1 h2 => by
        rcases four h2 with rfl | rfl | rfl | rfl
        · omega
        · omega
        · exact c2
        · exact u2 c2, fun _ => u3 (u2 c2)⟩
    · by_cases c3 : g 3 (page / dv 3) = 0
      · exact ⟨3, by omega, by omega, fun l hl => by
          rcases four (show l < 4 by omega) with rfl | rfl | rfl | rfl
          · exact h0
          · exact c1
          · exact c2
          · omega, fun l h1 h2 => by
          rcases four h2 with rfl | rfl | rfl | rfl
          · omega
          · omega
          · omega
          · exact c3, fun _ => u3 c3⟩
      · exact ⟨4, by omega, by omega, fun l hl => by
          rcases four hl with rfl | rfl | rfl | rfl
          · exact h0
          · exact c1
          · exact c2
          · exact c3, fun l h1 h2 => by omega, fun h => by omega⟩
end

/-! ### as many tables as pages with entries take -/
theorem Nod.dist {g : Nat → Nat → Nat} {t : Nat → Prop} {page : Nat} (h : Nod g t page 0) {ps : List Nat} (hps : ∀ p, p ∈ ps ↔ g 4 p ≠ 0) :
    (∀ q, q ∈ distL (ps.map (· / 8)) ↔ g 3 q ≠ 0) ∧ (∀ q, q ∈ distL (ps.map (· / 64)) ↔ g 2 q ≠ 0) ∧ (∀ q, q ∈ distL (ps.map (· / 512)) ↔ g 1 q ≠ 0) := by
  have s3 : ∀ q, g 3 q ≠ 0 → ∃ p, g 4 p ≠ 0 ∧ p / 8 = q := fun q hq => by
    obtain ⟨j, hj, h1⟩ := h.some 3 q (by omega) (by omega) hq (by omega)
    exact ⟨_, h1, by omega⟩
  have s2 : ∀ q, g 2 q ≠ 0 → ∃ p, g 4 p ≠ 0 ∧ p / 64 = q := fun q hq => by
    obtain ⟨j, hj, h1⟩ := h.some 2 q (by omega) (by omega) hq (by omega)
    obtain ⟨p, hp, h2⟩ := s3 _ h1
    exact ⟨_, hp, by omega⟩
  have s1 : ∀ q, g 1 q ≠ 0 → ∃ p, g 4 p ≠ 0 ∧ p / 512 = q := fun q hq => by
    obtain ⟨j, hj, h1⟩ := h.some 1 q (by omega) (by omega) hq (by omega)
    obtain ⟨p, hp, h2⟩ := s2 _ h1
    exact ⟨_, hp, by omega⟩
  have u3 : ∀ p, g 4 p ≠ 0 → g 3 (p / 8) ≠ 0 := fun p hp => h.up 3 p (by omega) hp
  have u2 : ∀ p, g 4 p ≠ 0 → g 2 (p / 64) ≠ 0 := fun p hp => by
    have := h.up 2 _ (by omega) (u3 p hp)
    rwa [Nat.div_div_eq_div_mul] at this
  have u1 : ∀ p, g 4 p ≠ 0 → g 1 (p / 512) ≠ 0 := fun p hp => by
    have := h.up 1 _ (by omega) (u2 p hp)
    rwa [Nat.div_div_eq_div_mul] at this
  have key : ∀ (d l : Nat), (∀ q, g l q ≠ 0 → ∃ p, g 4 p ≠ 0 ∧ p / d = q) → (∀ p, g 4 p ≠ 0 → g l (p / d) ≠ 0) → ∀ q, q ∈ distL (ps.map (· / d)) ↔ g l q ≠ 0 := by
    intro d l a b q
    rw [distL_mem, List.mem_map]
    constructor
    · rintro ⟨p, hp, rfl⟩
      exact b p ((hps p).1 hp)
    · intro hq
      obtain ⟨p, hp, e⟩ := a q hq
      exact ⟨p, (hps p).2 hp, e⟩
  exact ⟨key 8 3 s3 u3, key 64 2 s2 u2, key 512 1 s1 u1⟩
theorem map_nodup {α β : Type} {f : α → β} {l : List α} (h : l.Nodup) (hi : ∀ a ∈ l, ∀ b ∈ l, f a = f b → a = b) : (l.map f).Nodup := by
  induction l with
  | nil => exact List.nodup_nil
  | cons x l ih =>
    rw [List.nodup_cons] at h
    rw [List.map_cons, List.nodup_cons]
    refine ⟨fun hm => ?_, ih h.2 fun a ha b hb => hi a (List.mem_cons_of_mem _ ha) b (List.mem_cons_of_mem _ hb)⟩
    obtain ⟨y, hy, e⟩ := List.mem_map.1 hm
    have := hi y (List.mem_cons_of_mem _ hy) x (List.mem_cons_self ..) e
    exact h.1 (this ▸ hy)
/-- There are as many tables as the pages that have something take. -/
theorem Nod.count {g : Nat → Nat → Nat} {t : List Nat} {page : Nat} (h : Nod g (· ∈ t) page 0) (ht : t.Nodup) {ps : List Nat} (hps : ∀ p, p ∈ ps ↔ g 4 p ≠ 0) : t.length = tablesN ps := by
  obtain ⟨d3, d2, d1⟩ := h.dist hps
  obtain ⟨D1, e1⟩ : ∃ D, D = distL (ps.map (· / 512)) := ⟨_, rfl⟩
  obtain ⟨D2, e2⟩ : ∃ D, D = distL (ps.map (· / 64)) := ⟨_, rfl⟩
  obtain ⟨D3, e3⟩ : ∃ D, D = distL (ps.map (· / 8)) := ⟨_, rfl⟩
  have n1 : D1.Nodup := by rw [e1]; exact distL_nodup _
  have n2 : D2.Nodup := by rw [e2]; exact distL_nodup _
  have n3 : D3.Nodup := by rw [e3]; exact distL_nodup _
  unfold tablesN
  rw [← e1, ← e2, ← e3]
  rw [← e1] at d1
  rw [← e2] at d2
  rw [← e3] at d3
  have m1 : (D1.map (g 1)).Nodup := map_nodup n1 fun a ha b hb e => (h.inj 1 a 1 b (by omega) (by omega) e ((d1 a).1 ha)).2
  have m2 : (D2.map (g 2)).Nodup := map_nodup n2 fun a ha b hb e => (h.inj 2 a 2 b (by omega) (by omega) e ((d2 a).1 ha)).2
  have m3 : (D3.map (g 3)).Nodup := map_nodup n3 fun a ha b hb e => (h.inj 3 a 3 b (by omega) (by omega) e ((d3 a).1 ha)).2
  have hp : (t.map (· + 1)).Perm ([g 0 0] ++ (D1.map (g 1) ++ (D2.map (g 2) ++ D3.map (g 3)))) := by
    refine (List.perm_ext_iff_of_nodup (map_nodup ht fun a _ b _ e => by omega) ?_).2 fun x => ?_
    · rw [List.nodup_append]
      refine ⟨by simp, ?_, ?_⟩
      · rw [List.nodup_append]
        refine ⟨m1, ?_, ?_⟩
        · rw [List.nodup_append]
          refine ⟨m2, m3, ?_⟩
          intro a ha b hb e
          obtain ⟨q, hq, rfl⟩ := List.mem_map.1 ha
          obtain ⟨q', hq', rfl⟩ := List.mem_map.1 hb
          have := (h.inj 2 q 3 q' (by omega) (by omega) e ((d2 q).1 hq)).1
          omega
        · intro a ha b hb e
          obtain ⟨q, hq, rfl⟩ := List.mem_map.1 ha
          rcases List.mem_append.1 hb with hb | hb
          · obtain ⟨q', hq', rfl⟩ := List.mem_map.1 hb
            have := (h.inj 1 q 2 q' (by omega) (by omega) e ((d1 q).1 hq)).1
            omega
          · obtain ⟨q', hq', rfl⟩ := List.mem_map.1 hb
            have := (h.inj 1 q 3 q' (by omega) (by omega) e ((d1 q).1 hq)).1
            omega
      · intro a ha b hb e
        rw [List.mem_singleton] at ha
        subst ha
        rcases List.mem_append.1 hb with hb | hb
        · obtain ⟨q', hq', rfl⟩ := List.mem_map.1 hb
          have := (h.inj 0 0 1 q' (by omega) (by omega) e h.root).1
          omega
        · rcases List.mem_append.1 hb with hb | hb
          · obtain ⟨q', hq', rfl⟩ := List.mem_map.1 hb
            have := (h.inj 0 0 2 q' (by omega) (by omega) e h.root).1
            omega
          · obtain ⟨q', hq', rfl⟩ := List.mem_map.1 hb
            have := (h.inj 0 0 3 q' (by omega) (by omega) e h.root).1
            omega
    · rw [List.mem_map, List.mem_append, List.mem_append, List.mem_append, List.mem_singleton, List.mem_map, List.mem_map, List.mem_map]
      constructor
      · rintro ⟨f, hf, rfl⟩
        obtain ⟨l, q, hl, e⟩ := (h.mem f).1 hf
        rcases four hl with rfl | rfl | rfl | rfl
        · obtain rfl := h.out q (by omega)
          exact .inl e.symm
        · exact .inr (.inl ⟨q, (d1 q).2 (by omega), e⟩)
        · exact .inr (.inr (.inl ⟨q, (d2 q).2 (by omega), e⟩))
        · exact .inr (.inr (.inr ⟨q, (d3 q).2 (by omega), e⟩))
      · have back : ∀ l q, l < 4 → g l q ≠ 0 → ∃ a, a ∈ t ∧ a + 1 = g l q := fun l q hl hz => ⟨g l q - 1, (h.mem _).2 ⟨l, q, hl, by omega⟩, by omega⟩
        rintro (rfl | ⟨q, hq, rfl⟩ | ⟨q, hq, rfl⟩ | ⟨q, hq, rfl⟩)
        · exact back 0 0 (by omega) h.root
        · exact back 1 q (by omega) ((d1 q).1 hq)
        · exact back 2 q (by omega) ((d2 q).1 hq)
        · exact back 3 q (by omega) ((d3 q).1 hq)
  have := hp.length_eq
  simp only [List.length_map, List.length_append, List.length_cons, List.length_nil] at this
  omega
/-- With a page more that has something there are as many more as the way to it lacks. -/
theorem Nod.count_more {g : Nat → Nat → Nat} {t : List Nat} {page L : Nat} (h : Nod g (· ∈ t) page 0) (ht : t.Nodup) {ps ps' : List Nat} (hps : ∀ p, p ∈ ps ↔ g 4 p ≠ 0) (hps' : ∀ p, p ∈ ps' ↔ g 4 p ≠ 0 ∨ p = page)
    (h1 : 1 ≤ L) (h4 : L ≤ 4) (hy : ∀ l, l < L → g l (page / dv l) ≠ 0) (hn : ∀ l, L ≤ l → l < 4 → g l (page / dv l) = 0) : tablesN ps' = t.length + (4 - L) := by
  have e : tablesN ps' = tablesN (ps ++ [page]) := tablesN_same fun x => by
    rw [hps', List.mem_append, List.mem_singleton, hps]
  obtain ⟨d3, d2, d1⟩ := h.dist hps
  rw [e, h.count ht hps]
  unfold tablesN
  rw [List.map_append, List.map_append, List.map_append, List.map_cons, List.map_cons, List.map_cons, List.map_nil, List.map_nil, List.map_nil, distL_snoc, distL_snoc, distL_snoc]
  have key : ∀ l d, l < 4 → dv l = d → (∀ q, q ∈ distL (ps.map (· / d)) ↔ g l q ≠ 0) → (if page / d ∈ distL (ps.map (· / d)) then distL (ps.map (· / d)) else distL (ps.map (· / d)) ++ [page / d]).length = (distL (ps.map (· / d))).length + if l < L then 0 else 1 := by
    intro l d hl hd hm
    by_cases c : l < L
    · have := hy l c
      rw [hd] at this
      rw [if_pos ((hm _).2 this), if_pos c]
      rfl
    · have := hn l (by omega) hl
      rw [hd] at this
      rw [if_neg (fun hh => (hm _).1 hh this), if_neg c, List.length_append]
      rfl
  rw [key 1 512 (by omega) rfl d1, key 2 64 (by omega) rfl d2, key 3 8 (by omega) rfl d3]
  rcases (show L = 1 ∨ L = 2 ∨ L = 3 ∨ L = 4 by omega) with rfl | rfl | rfl | rfl <;> simp <;> omega
end Go.Proofs.Ytegoookllckhiaa
