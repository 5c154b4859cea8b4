/-
  A record's sector as a list of bytes: what it is made of, when a sector is one, and which records there are. Nothing of the program is named here.
  Conditions: none beside those that each line bears.
-/
import Derived.Test.YtckabekimdcdcaaOver
namespace Go.Proofs.Ytckabekimdcdcaa
open Go.RowKit
set_option linter.unusedVariables false

/-- The sum as a number. -/
def sumM (xs : List Nat) : Nat := (sumN xs / 4294967296) ^^^ (sumN xs % 4294967296)
theorem sumU_eq (xs : List Nat) : sumU xs = ((sumM xs : Nat) : Int) := by
  unfold sumU sumM sumI
  rw [← u32_xor_nat _ _ (by have := sumN_lt xs; omega) (by omega)]
  rfl
theorem sumM_lt (xs : List Nat) : sumM xs < 4294967296 := by
  unfold sumM
  have := sumN_lt xs
  exact Nat.xor_lt_two_pow (n := 32) (by omega) (by omega)

theorem numL_le : ∀ (xs : List Nat), (∀ y ∈ xs, y < 256) → numL (le xs) xs.length = xs
  | [], _ => rfl
  | x :: r, h => by
    have hx := h x (List.mem_cons_self ..)
    have ih := numL_le r (fun y hy => h y (List.mem_cons_of_mem _ hy))
    have hd : dig (x + 256 * le r) 0 = x := by unfold dig; simp; omega
    have hs : ∀ k, dig (x + 256 * le r) (k + 1) = dig (le r) k := by
      intro k
      rw [← dig_shift, show (x + 256 * le r) / 256 = le r by omega]
    have e : numL (x + 256 * le r) (r.length + 1) = dig (x + 256 * le r) 0 :: numL (le r) r.length := by
      unfold numL
      rw [List.range_succ_eq_map, List.map_cons, List.map_map]
      congr 1
      exact List.map_congr_left (fun k _ => hs k)
    rw [le, List.length_cons, e, hd, ih]
theorem le_numL_lt (v n : Nat) (h : v < 2 ^ (8 * n)) : le (numL v n) = v := by rw [le_numL, Nat.mod_eq_of_lt h]

theorem win_append_left (a b : List Nat) (n : Nat) (h : a.length = n) : win (a ++ b) 0 n = a := by
  unfold win
  rw [List.drop_zero]
  exact List.take_left' h
theorem win_whole (xs : List Nat) (n : Nat) (h : xs.length = n) : win xs 0 n = xs := by
  unfold win
  rw [List.drop_zero]
  exact List.take_of_length_le (by omega)
theorem win_split (xs : List Nat) (a n m : Nat) (h : a + n ≤ xs.length) : win xs a (n + m) = win xs a n ++ win xs (a + n) m := by
  unfold win
  rw [List.take_add, List.drop_drop]
theorem win_one (xs : List Nat) (a : Nat) (h : a < xs.length) : win xs a 1 = [xs.getD a 0] := by
  unfold win
  rw [List.drop_eq_getElem_cons h, List.take_succ_cons, List.take_zero]
  simp [h]
theorem win_num (s : List Nat) (a k : Nat) (h : a + k ≤ s.length) (hb : ∀ y ∈ s, y < 256) : numL (le (win s a k)) k = win s a k := by
  have h1 := numL_le (win s a k) (win_byte s a k (fun j hj => by have := hb _ (List.getElem_mem hj); simpa [hj] using this))
  rw [win_length s a k h] at h1
  exact h1
theorem win_getD (xs : List Nat) (a k j : Nat) (hj : j < k) : (win xs a k).getD j 0 = xs.getD (a + j) 0 := by
  unfold win
  simp only [List.getD_eq_getElem?_getD, List.getElem?_take, if_pos hj, List.getElem?_drop]
theorem win_zero (xs : List Nat) (a k : Nat) (hl : a + k ≤ xs.length) (h : ∀ j, a ≤ j → j < a + k → xs.getD j 0 = 0) : win xs a k = List.replicate k 0 := by
  have hwl := win_length xs a k hl
  apply List.ext_getElem
  · simp [hwl]
  · intro j h1 h2
    have h3 := win_getD xs a k j (by omega)
    rw [h (a + j) (by omega) (by omega)] at h3
    simp only [List.getElem_replicate]
    simpa [List.getD_eq_getElem?_getD, List.getElem?_eq_getElem h1] using h3

/-- A record's sector, ahead of its sum. -/
def headL (gen n : Nat) (b : List Nat) : List Nat := numL gen 4 ++ (numL n 4 ++ ([b.length] ++ (b ++ List.replicate (51 - b.length) 0)))
/-- A record's sector. -/
def secL (gen n : Nat) (b : List Nat) : List Nat := headL gen n b ++ numL (sumM (headL gen n b)) 4
theorem headL_length (gen n : Nat) (b : List Nat) (h : b.length ≤ 50) : (headL gen n b).length = 60 := by
  simp [headL, numL_length]
  omega
theorem secL_length (gen n : Nat) (b : List Nat) (h : b.length ≤ 50) : (secL gen n b).length = 64 := by
  simp [secL, numL_length, headL_length gen n b h]
theorem headL_byte (gen n : Nat) (b : List Nat) (h : b.length ≤ 50) (hb : ∀ y ∈ b, y < 256) : ∀ y ∈ headL gen n b, y < 256 := by
  intro y hy
  simp only [headL, List.mem_append, List.mem_singleton, List.mem_replicate] at hy
  rcases hy with hy | hy | hy | hy | hy
  · exact numL_byte _ _ y hy
  · exact numL_byte _ _ y hy
  · omega
  · exact hb y hy
  · omega
theorem secL_byte (gen n : Nat) (b : List Nat) (h : b.length ≤ 50) (hb : ∀ y ∈ b, y < 256) : ∀ y ∈ secL gen n b, y < 256 := by
  intro y hy
  rcases List.mem_append.1 hy with hy | hy
  · exact headL_byte gen n b h hb y hy
  · exact numL_byte _ _ y hy

/-- Is that sector the record with that number, of that gen? -/
def IsRec (s : List Nat) (gen n : Nat) : Prop := s.getD 8 0 ≤ 50 ∧ secL gen n (win s 9 (s.getD 8 0)) = s
instance (s : List Nat) (gen n : Nat) : Decidable (IsRec s gen n) := by unfold IsRec; infer_instance

section
variable {gen n : Nat} {b : List Nat}
theorem secL_gen : win (secL gen n b) 0 4 = numL gen 4 := by
  unfold secL headL
  rw [List.append_assoc]
  exact win_append_left _ _ 4 (numL_length _ _)
theorem secL_num : win (secL gen n b) 4 4 = numL n 4 := by
  have e : secL gen n b = numL gen 4 ++ (numL n 4 ++ ([b.length] ++ (b ++ List.replicate (51 - b.length) 0) ++ numL (sumM (headL gen n b)) 4)) := by
    rw [secL, headL]
    simp only [List.append_assoc]
  rw [e]
  unfold win
  rw [List.drop_left' (numL_length _ _)]
  exact List.take_left' (numL_length _ _)
theorem secL_pay : win (secL gen n b) 9 b.length = b := by
  have e : secL gen n b = (numL gen 4 ++ (numL n 4 ++ [b.length])) ++ (b ++ (List.replicate (51 - b.length) 0 ++ numL (sumM (headL gen n b)) 4)) := by
    rw [secL, headL]
    simp only [List.append_assoc]
  rw [e]
  unfold win
  rw [List.drop_left' (by simp [numL_length])]
  exact List.take_left' rfl
end
section
variable {gen n : Nat} {b : List Nat} (h : b.length ≤ 50)
include h
theorem secL_at8 : (secL gen n b).getD 8 0 = b.length := by
  unfold secL headL
  simp only [List.getD_eq_getElem?_getD]
  rw [List.getElem?_append_left (by simp [numL_length]; omega), List.getElem?_append_right (by simp [numL_length]), List.getElem?_append_right (by simp [numL_length])]
  simp [numL_length]
theorem secL_sum : win (secL gen n b) 60 4 = numL (sumM (headL gen n b)) 4 := by
  unfold secL win
  rw [List.drop_left' (headL_length gen n b h)]
  exact List.take_of_length_le (by simp [numL_length])
theorem secL_head : (secL gen n b).take 60 = headL gen n b := by
  unfold secL
  exact List.take_left' (headL_length gen n b h)
theorem secL_behind (j : Nat) (h1 : 9 + b.length ≤ j) (h2 : j < 60) : (secL gen n b).getD j 0 = 0 := by
  have e : secL gen n b = (numL gen 4 ++ (numL n 4 ++ ([b.length] ++ b))) ++ (List.replicate (51 - b.length) 0 ++ numL (sumM (headL gen n b)) 4) := by
    rw [secL, headL]
    simp only [List.append_assoc]
  rw [e]
  simp only [List.getD_eq_getElem?_getD]
  rw [List.getElem?_append_right (by simp [numL_length]; omega), List.getElem?_append_left (by simp [numL_length]; omega)]
  rw [List.getElem?_replicate]
  split <;> rfl
theorem secL_rec : IsRec (secL gen n b) gen n := by
  refine ⟨by rw [secL_at8 h]; exact h, ?_⟩
  rw [secL_at8 h, secL_pay]
theorem secL_other {gen' n' : Nat} (hr : IsRec (secL gen n b) gen' n') (hg : gen < 4294967296) (hg' : gen' < 4294967296) : gen' = gen := by
  obtain ⟨h1, h2⟩ := hr
  rw [secL_at8 h, secL_pay] at h2
  have h3 := congrArg (fun s => le (win s 0 4)) h2
  simp only [secL_gen] at h3
  rw [le_numL_lt _ _ (by omega), le_numL_lt _ _ (by omega)] at h3
  exact h3
end

/-- What is held against a sector to tell whether it is that record. -/
theorem isRec_iff {s : List Nat} {gen n : Nat} (hl : s.length = 64) (hb : ∀ y ∈ s, y < 256) (hg : gen < 4294967296) (hn : n < 4294967296) :
    IsRec s gen n ↔ ((le (win s 60 4) = sumM (s.take 60) ∧ le (win s 0 4) = gen ∧ le (win s 4 4) = n) ∧ s.getD 8 0 ≤ 50 ∧ ∀ j, 9 + s.getD 8 0 ≤ j → j < 60 → s.getD j 0 = 0) := by
  constructor
  · rintro ⟨h1, h2⟩
    have hw : (win s 9 (s.getD 8 0)).length = s.getD 8 0 := win_length _ _ _ (by omega)
    have hw' : (win s 9 (s.getD 8 0)).length ≤ 50 := by omega
    refine ⟨⟨?_, ?_, ?_⟩, h1, fun j h3 h4 => ?_⟩
    · rw [← h2, secL_sum hw', secL_head hw', le_numL_lt _ _ (by have := sumM_lt (headL gen n (win s 9 (s.getD 8 0))); omega)]
    · rw [← h2, secL_gen, le_numL_lt _ _ (by omega)]
    · rw [← h2, secL_num, le_numL_lt _ _ (by omega)]
    · have := secL_behind (gen := gen) (n := n) hw' j (by omega) h4
      rw [h2] at this
      exact this
  · rintro ⟨⟨h1, h2, h3⟩, h4, h5⟩
    refine ⟨h4, ?_⟩
    obtain ⟨L, hL⟩ : ∃ L, L = s.getD 8 0 := ⟨_, rfl⟩
    rw [← hL] at h4 h5 ⊢
    have hw : (win s 9 L).length = L := win_length _ _ _ (by omega)
    have e1 : win s 0 4 = numL gen 4 := by rw [← h2]; exact (win_num s 0 4 (by omega) hb).symm
    have e2 : win s 4 4 = numL n 4 := by rw [← h3]; exact (win_num s 4 4 (by omega) hb).symm
    have e3 : win s 60 4 = numL (sumM (s.take 60)) 4 := by rw [← h1]; exact (win_num s 60 4 (by omega) hb).symm
    have e4 : win s (9 + L) (51 - L) = List.replicate (51 - L) 0 := win_zero s _ _ (by omega) (fun j h6 h7 => h5 j h6 (by omega))
    have e5 : win s 0 60 = headL gen n (win s 9 L) := by
      unfold headL
      rw [hw, ← e1, ← e2, ← e4, hL, ← win_one s 8 (by omega), ← hL, ← win_split s 9 L (51 - L) (by omega), ← win_split s 8 1 _ (by omega), ← win_split s 4 4 _ (by omega), ← win_split s 0 4 _ (by omega)]
      congr 1
      omega
    unfold secL
    rw [← e5, show win s 0 60 = s.take 60 from by unfold win; rw [List.drop_zero], ← e3]
    have e6 : win s 60 4 = s.drop 60 := by
      unfold win
      exact List.take_of_length_le (by simp; omega)
    rw [e6, List.take_append_drop]
theorem zer_take : zer.take 60 = List.replicate 60 0 := by unfold zer; rw [List.take_replicate]; rfl
set_option maxRecDepth 20000 in
theorem sum60 : sumM (List.replicate 60 0) ≠ 0 := by decide +kernel
/-- A sector of zeros is no record. -/
theorem zer_none (gen n : Nat) : ¬ IsRec zer gen n := by
  rintro ⟨h1, h2⟩
  have e8 : zer.getD 8 0 = 0 := by unfold zer; rfl
  rw [e8] at h2
  have hw : (win zer 9 0) = [] := by unfold win; simp
  rw [hw] at h2
  have h3 := secL_sum (gen := gen) (n := n) (b := []) (by simp)
  have h4 := secL_head (gen := gen) (n := n) (b := []) (by simp)
  rw [h2] at h3 h4
  rw [← h4, zer_take] at h3
  have h5 := congrArg le h3
  rw [le_numL_lt _ _ (by have := sumM_lt (List.replicate 60 0); omega)] at h5
  exact sum60 (h5.symm.trans (by decide))

/-- The bytes of a sector's record. -/
def pay (F : Nat → List Nat) (j : Nat) : List Nat := win (F j) 9 ((F j).getD 8 0)
/-- The records of the first m sectors. -/
def pays (F : Nat → List Nat) (m : Nat) : List (List Nat) := (List.range m).map (pay F)
theorem pays_length (F : Nat → List Nat) (m : Nat) : (pays F m).length = m := by simp [pays]
theorem pays_succ (F : Nat → List Nat) (m : Nat) : pays F (m + 1) = pays F m ++ [pay F m] := by simp [pays, List.range_succ]
theorem pays_getD (F : Nat → List Nat) (m j : Nat) (h : j < m) : (pays F m).getD j [] = pay F j := by simp [pays, h]
/-- There are m records, from the first one on. -/
def Stop (F : Nat → List Nat) (gen m : Nat) : Prop := m ≤ 64 ∧ (∀ j, j < m → IsRec (F j) gen j) ∧ (m < 64 → ¬ IsRec (F m) gen m)
theorem Stop.uniq {F F' : Nat → List Nat} {gen m m' : Nat} (h : Stop F gen m) (h' : Stop F' gen m') (he : ∀ j, j < 64 → F j = F' j) : m = m' := by
  obtain ⟨h1, h2, h3⟩ := h
  obtain ⟨k1, k2, k3⟩ := h'
  rcases Nat.lt_trichotomy m m' with h | h | h
  · exact absurd (he m (by omega) ▸ k2 m h) (h3 (by omega))
  · exact h
  · exact absurd ((he m' (by omega)).symm ▸ h2 m' h) (k3 (by omega))
theorem Stop.exists_ (F : Nat → List Nat) (gen : Nat) : ∃ m, Stop F gen m := by
  have h : ∀ k, k ≤ 64 → (∃ m, Stop F gen m) ∨ ∀ j, j < k → IsRec (F j) gen j := by
    intro k
    induction k with
    | zero => intro _; exact .inr fun j hj => absurd hj (by omega)
    | succ k ih =>
      intro hk
      rcases ih (by omega) with h | h
      · exact .inl h
      · by_cases hr : IsRec (F k) gen k
        · refine .inr fun j hj => ?_
          by_cases e : j = k
          · subst e; exact hr
          · exact h j (by omega)
        · exact .inl ⟨k, by omega, h, fun _ => hr⟩
  rcases h 64 (Nat.le_refl _) with h | h
  · exact h
  · exact ⟨64, Nat.le_refl _, h, fun h => absurd h (by omega)⟩
theorem pays_congr {F F' : Nat → List Nat} {m : Nat} (h : ∀ j, j < m → F j = F' j) : pays F m = pays F' m := by
  unfold pays
  refine List.map_congr_left fun j hj => ?_
  unfold pay
  rw [h j (by simpa using hj)]
end Go.Proofs.Ytckabekimdcdcaa
