/-
  The contract of the document's own Get: the number of the bytes at a place, or 0 and false; nothing is changed.
  Conditions: the bytes are read in memory.
-/
import Derived.Test.YtgjedofljojioaaGet
namespace Go.Proofs.Ytgjedofljojioaa
open Go.RowKit
set_option linter.unusedVariables false

set_option maxHeartbeats 400000 in
theorem refGet_no (A : Option Addr) (l c : Nat) (at_ n : Int) (w : World) (hl : l ≤ maxLen) (hn : -9223372036854775808 ≤ at_) (h : NoFit l at_ n) :
    Calls Try.prog 37 #[.slice A l c, .int .i64 at_, .int .i64 n] w fun e w' => e = .returned (.tuple #[.int .u64 0, .bool false]) ∧ w = w' := by
  unfold maxLen at hl
  unfold NoFit at h
  by_cases h1 : n < 0
  · clear h
    go_enter Try.func37, Try.ntmps37
    go_wp2
    go_ret2
    exact ⟨rfl, rfl⟩
  · have h1' : 0 ≤ n := by omega
    by_cases h2 : 8 < n
    · clear h
      go_enter Try.func37, Try.ntmps37
      go_wp2
      go_ret2
      exact ⟨rfl, rfl⟩
    · have h2' : n ≤ 8 := by omega
      by_cases h3 : at_ < 0
      · clear h
        go_enter Try.func37, Try.ntmps37
        go_wp2
        go_ret2
        exact ⟨rfl, rfl⟩
      · have h3' : 0 ≤ at_ := by omega
        by_cases h4 : (l : Int) < at_
        · clear h
          go_enter Try.func37, Try.ntmps37
          go_wp2
          go_ret2
          exact ⟨rfl, rfl⟩
        · have h4' : at_ ≤ l := by omega
          have h5 : (l : Int) - at_ < n := by omega
          clear h
          go_enter Try.func37, Try.ntmps37
          go_wp2
          go_ret2
          exact ⟨rfl, rfl⟩

set_option maxHeartbeats 400000 in
theorem refGet_yes (v : Value) (xs : List Nat) (B : Nat) (at_ n : Int) (w : World) (h : Bts w B v xs) (hf : Fit xs.length at_ n) :
    Calls Try.prog 37 #[v, .int .i64 at_, .int .i64 n] w fun e w' => e = .returned (.tuple #[.int .u64 (getV xs at_ n), .bool true]) ∧ w = w' := by
  obtain ⟨A, l, c, rfl, hl, hm, _, _, hb, hx⟩ := h
  unfold maxLen at hm
  obtain ⟨h1, h2, h3, h4⟩ := hf
  obtain ⟨a, rfl⟩ := Int.eq_ofNat_of_zero_le h3
  obtain ⟨m, rfl⟩ := Int.eq_ofNat_of_zero_le h1
  have h5 : a + m ≤ l := by omega
  have h6 : m ≤ 8 := by omega
  clear h1 h2 h3 h4
  have HL := Lib.hid hl
  clear hl
  have HB := Lib.hid hb
  clear hb
  have HX := Lib.hid hx
  clear hx
  have d1 : decide ((m : Int) < 0) = false := by simp
  have d2 : decide ((8 : Int) < (m : Int)) = false := by simp; omega
  have d3 : decide ((a : Int) < 0) = false := by simp
  have d4 : decide (l < a) = false := by simp; omega
  have d5 : decide ((l : Int) - (a : Int) < (m : Int)) = false := by simp; omega
  go_enter Try.func37, Try.ntmps37
  go_wp2
  go_loop [8, 9] (fun s i => ∃ k : Nat, k ≤ m ∧ i = .int .i64 ((k : Int) - 1) ∧ s = .int .u64 ((le (win xs (a + k) (m - k)) : Nat) : Int)) (fun _ i => (intOf i + 1).toNat)
  case atStart => exact ⟨m, Nat.le_refl _, rfl, by rw [Nat.sub_self, win, List.take_zero]; rfl⟩
  case round =>
    obtain ⟨k, hk, rfl, rfl⟩ := hrel
    by_cases hlt : 0 < k
    · obtain ⟨j, rfl⟩ : ∃ j, k = j + 1 := ⟨k - 1, by omega⟩
      obtain ⟨b, off, rfl, _, hc⟩ := HX.out (by omega)
      have hcell := hc (a + j) (by omega)
      have hx8 := HB.out (a + j) (by omega)
      obtain ⟨y, hy⟩ : ∃ y, y = xs.getD (a + j) 0 := ⟨_, rfl⟩
      rw [← hy] at hcell hx8
      have HS := Lib.hid (show win xs (a + j) (m - j) = y :: win xs (a + (j + 1)) (m - (j + 1)) by
        rw [show m - j = m - (j + 1) + 1 by omega, win_cons xs (a + j) _ (by rw [HL.out]; omega), hy]
        rfl)
      clear hc hy
      have hx0 : (0 : Int) ≤ (y : Int) := by omega
      have hx1 : (y : Int) < 256 := by omega
      rw [show (((j + 1 : Nat) : Int) - 1) = (j : Int) by omega]
      go_wp2
      go_round
      case rel =>
        refine ⟨j, by omega, rfl, ?_⟩
        rw [HS.out, le_shift y (win xs (a + (j + 1)) (m - (j + 1))) (m - (j + 1)) (win_length _ _ _ (by rw [HL.out]; omega)) (by omega) (win_byte _ _ _ (by rw [HL.out]; exact HB.out)) hx8]
      case measure => simp [intOf]
    · obtain rfl : k = 0 := by omega
      go_wp2
      go_ret2
      exact ⟨ret_u64_bool (by unfold getV; simp), rfl⟩
end Go.Proofs.Ytgjedofljojioaa
