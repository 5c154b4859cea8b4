/-
  A slot's bytes read off the disk one sector behind the other, and a head as the program asks for it: its rest, and its sum. Nothing of the program is named here.
  Conditions: none beside those that each line bears.
-/
import Derived.Test.YtckabekimdcdcaaSlo
namespace Go.Proofs.Ytckabekimdcdcaa
open Go.RowKit
set_option linter.unusedVariables false

/-- k sectors from a on, one behind the other. -/
def flatN (F : Nat → List Nat) (a k : Nat) : List Nat := ((List.range k).map (fun j => F (a + j))).flatten
theorem flatN_zero (F : Nat → List Nat) (a : Nat) : flatN F a 0 = [] := rfl
theorem flatN_succ (F : Nat → List Nat) (a k : Nat) : flatN F a (k + 1) = flatN F a k ++ F (a + k) := by
  unfold flatN
  rw [List.range_succ, List.map_append, List.flatten_append]
  simp
theorem flatN_length {F : Nat → List Nat} {a k : Nat} (h : ∀ j, j < k → (F (a + j)).length = 64) : (flatN F a k).length = 64 * k := by
  induction k with
  | zero => rfl
  | succ k ih =>
    rw [flatN_succ, List.length_append, ih (fun j hj => h j (by omega)), h k (by omega)]
    omega
theorem flatN_byte {F : Nat → List Nat} {a k : Nat} (h : ∀ j, j < k → ∀ y ∈ F (a + j), y < 256) : ∀ y ∈ flatN F a k, y < 256 := by
  induction k with
  | zero => intro y hy; cases hy
  | succ k ih =>
    intro y hy
    rw [flatN_succ] at hy
    rcases List.mem_append.1 hy with hy | hy
    · exact ih (fun j hj => h j (by omega)) y hy
    · exact h k (by omega) y hy
theorem sloA_flat (F : Nat → List Nat) (w : Nat) : sloA F w = flatN F (65 + 16 * w) 15 := rfl
/-- The next sector's bytes. -/
theorem con_step {F : Nat → List Nat} {a k m : Nat} (h : ∀ j, j < k → (F (a + j)).length = 64) (hm : 64 * k < m) : (flatN F a (k + 1)).take m = (flatN F a k).take m ++ (F (a + k)).take (m - 64 * k) := by
  rw [flatN_succ, List.take_append, flatN_length h]
theorem con_less {F : Nat → List Nat} {a m : Nat} : ∀ d k, (∀ j, j < k → (F (a + j)).length = 64) → m ≤ 64 * k → (flatN F a (k + d)).take m = (flatN F a k).take m := by
  intro d
  induction d with
  | zero => intro k _ _; rfl
  | succ d ih =>
    intro k hk hm
    rw [← Nat.add_assoc, flatN_succ, List.take_append_of_le_length, ih k hk hm]
    have h2 : ∀ d, 64 * k ≤ (flatN F a (k + d)).length := by
      intro d
      induction d with
      | zero => rw [Nat.add_zero, flatN_length hk]; exact Nat.le_refl _
      | succ d ih => rw [← Nat.add_assoc, flatN_succ, List.length_append]; omega
    have := h2 d
    omega
/-- All that was asked for has been read. -/
theorem con_end {F : Nat → List Nat} {a k n m : Nat} (h : ∀ j, j < k → (F (a + j)).length = 64) (hm : m ≤ 64 * k) (hk : k ≤ n) : (flatN F a n).take m = (flatN F a k).take m := by
  obtain ⟨d, rfl⟩ : ∃ d, n = k + d := ⟨n - k, by omega⟩
  exact con_less d k h hm
theorem con_length {F : Nat → List Nat} {a k m : Nat} (h : ∀ j, j < k → (F (a + j)).length = 64) : ((flatN F a k).take m).length = min m (64 * k) := by
  rw [List.length_take, flatN_length h]

/-- A head as the program asks for it. -/
theorem head_iff {s b : List Nat} (hs : s.length = 64) (hb : ∀ y ∈ s, y < 256) (hn : b.length = le (win s 4 4)) :
    hedL (le (win s 0 4)) b = s ↔ (∀ y ∈ s.drop 12, y = 0) ∧ le (win s 8 4) = sumM (s.take 8 ++ b) := by
  have p8 : preL (le (win s 0 4)) b = s.take 8 := by
    unfold preL
    rw [hn, win_num s 0 4 (by omega) hb, win_num s 4 4 (by omega) hb, ← win_split s 0 4 4 (by omega)]
    simp [win]
  have ls : s = s.take 8 ++ (win s 8 4 ++ s.drop 12) := by
    have e : win s 8 4 ++ s.drop 12 = s.drop 8 := by
      unfold win
      rw [show s.drop 12 = (s.drop 8).drop 4 by rw [List.drop_drop], List.take_append_drop]
    rw [e, List.take_append_drop]
  have lw : (win s 8 4).length = 4 := win_length _ _ _ (by omega)
  have ld : (s.drop 12).length = 52 := by simp [hs]
  unfold hedL
  rw [p8]
  constructor
  · intro h
    have h2 : numL (sumM (s.take 8 ++ b)) 4 ++ List.replicate 52 0 = win s 8 4 ++ s.drop 12 := by
      refine List.append_cancel_left (as := s.take 8) ?_
      rw [← ls]
      exact h
    obtain ⟨h3, h4⟩ := List.append_inj h2 (by rw [numL_length, lw])
    refine ⟨fun y hy => ?_, ?_⟩
    · rw [← h4] at hy
      exact List.eq_of_mem_replicate hy
    · rw [← h3, le_numL_lt _ _ (by have := sumM_lt (s.take 8 ++ b); omega)]
  · rintro ⟨h1, h2⟩
    rw [← h2, win_num s 8 4 (by omega) hb, show List.replicate 52 0 = s.drop 12 from ?_, ← ls]
    exact (List.eq_replicate_iff.2 ⟨ld, h1⟩).symm
theorem sloN_lt {F : Nat → List Nat} {w : Nat} (hb : ∀ y ∈ F (64 + 16 * w), y < 256) : sloN F w < 4294967296 := by
  have h := le_lt (win (F (64 + 16 * w)) 4 4) (fun y hy => hb y (List.mem_of_mem_drop (List.mem_of_mem_take hy)))
  have h2 : (win (F (64 + 16 * w)) 4 4).length ≤ 4 := by unfold win; simp; omega
  have h3 : 256 ^ (win (F (64 + 16 * w)) 4 4).length ≤ 256 ^ 4 := Nat.pow_le_pow_right (by omega) h2
  unfold sloN
  omega
theorem sloG_lt {F : Nat → List Nat} {w : Nat} (hb : ∀ y ∈ F (64 + 16 * w), y < 256) : sloG F w < 4294967296 := by
  have h := le_lt (win (F (64 + 16 * w)) 0 4) (fun y hy => hb y (List.mem_of_mem_drop (List.mem_of_mem_take hy)))
  have h2 : (win (F (64 + 16 * w)) 0 4).length ≤ 4 := by unfold win; simp; omega
  have h3 : 256 ^ (win (F (64 + 16 * w)) 0 4).length ≤ 256 ^ 4 := Nat.pow_le_pow_right (by omega) h2
  unfold sloG
  omega
/-- A slot is whole as the program asks for it. -/
theorem whole_iff {F : Nat → List Nat} {w : Nat} (hl : ∀ f, 64 + 16 * w ≤ f → f < 80 + 16 * w → (F f).length = 64) (hb : ∀ y ∈ F (64 + 16 * w), y < 256) :
    Whole F w ↔ sloG F w % 2 = w ∧ sloN F w ≤ 960 ∧ (∀ y ∈ (F (64 + 16 * w)).drop 12, y = 0) ∧ le (win (F (64 + 16 * w)) 8 4) = sumM ((F (64 + 16 * w)).take 8 ++ sloB F w) := by
  unfold Whole
  by_cases c : sloN F w ≤ 960
  · have hB : (sloB F w).length = sloN F w := by
      unfold sloB
      rw [List.length_take, sloA_length w (fun f h1 h2 => hl f (by omega) h2)]
      omega
    have h := head_iff (s := F (64 + 16 * w)) (b := sloB F w) (hl _ (by omega) (by omega)) hb hB
    have h' : hedL (sloG F w) (sloB F w) = F (64 + 16 * w) ↔ _ := h
    rw [h']
    exact ⟨fun ⟨a, b, c, d⟩ => ⟨b, a, c, d⟩, fun ⟨a, b, c, d⟩ => ⟨b, a, c, d⟩⟩
  · exact ⟨fun h => absurd h.1 c, fun h => absurd h.2.1 c⟩
end Go.Proofs.Ytckabekimdcdcaa
