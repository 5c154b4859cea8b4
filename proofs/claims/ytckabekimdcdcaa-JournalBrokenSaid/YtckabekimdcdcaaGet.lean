/-
  The contracts of word.fits and word.Get: the number of the bytes at a place, or 0 and false; nothing is changed.
  Conditions: the bytes are read in memory.
-/
import Derived.Test.YtckabekimdcdcaaProg
import Derived.Test.YtckabekimdcdcaaPlain
import Derived.WalkKit
import Derived.WalkSpells
import Derived.Lib.Hide
namespace Go.Proofs.Ytckabekimdcdcaa
open Go.RowKit
set_option linter.unusedVariables false

/-- The places that may be: n bytes from at on in a list of l bytes. -/
def Fit (l : Nat) (at_ n : Int) : Prop := 0 ≤ n ∧ n ≤ 8 ∧ 0 ≤ at_ ∧ at_ + n ≤ l
def NoFit (l : Nat) (at_ n : Int) : Prop := n < 0 ∨ 8 < n ∨ at_ < 0 ∨ l < at_ + n
theorem fit_or (l : Nat) (at_ n : Int) : Fit l at_ n ∨ NoFit l at_ n := by unfold Fit NoFit; omega

set_option maxRecDepth 20000 in
set_option maxHeartbeats 400000 in
theorem fits_yes (A : Option Addr) (l c : Nat) (at_ n : Int) (w : World) (hl : l ≤ maxLen) (h : Fit l at_ n) :
    Calls Try.prog 54 #[.slice A l c, .int .i64 at_, .int .i64 n] w fun e w' => e = .returned (.bool true) ∧ w = w' := by
  unfold maxLen at hl
  obtain ⟨h1, h2, h3, h4⟩ := h
  have h5 : decide (at_ ≤ (l : Int) - n) = true := by simp; omega
  go_enter Try.func54, Try.ntmps54
  go_wp2
  go_ret
  exact ⟨rfl, rfl⟩

set_option maxRecDepth 20000 in
set_option maxHeartbeats 400000 in
theorem fits_no (A : Option Addr) (l c : Nat) (at_ n : Int) (w : World) (hl : l ≤ maxLen) (h : NoFit l at_ n) :
    Calls Try.prog 54 #[.slice A l c, .int .i64 at_, .int .i64 n] w fun e w' => e = .returned (.bool false) ∧ w = w' := by
  unfold maxLen at hl
  unfold NoFit at h
  by_cases h1 : n < 0
  · clear h
    go_enter Try.func54, Try.ntmps54
    go_wp2
    go_ret
    exact ⟨rfl, rfl⟩
  · have h1' : 0 ≤ n := by omega
    by_cases h2 : 8 < n
    · clear h
      go_enter Try.func54, Try.ntmps54
      go_wp2
      go_ret
      exact ⟨rfl, rfl⟩
    · have h2' : n ≤ 8 := by omega
      by_cases h3 : at_ < 0
      · clear h
        go_enter Try.func54, Try.ntmps54
        go_wp2
        go_ret
        exact ⟨rfl, rfl⟩
      · have h3' : 0 ≤ at_ := by omega
        have h4 : decide (at_ ≤ (l : Int) - n) = false := by simp; omega
        clear h
        go_enter Try.func54, Try.ntmps54
        go_wp2
        go_ret
        exact ⟨rfl, rfl⟩

theorem ret_u64_bool {a b : Int} {t : Bool} (h : a = b) : Ending.returned (.tuple #[.int .u64 a, .bool t]) = .returned (.tuple #[.int .u64 b, .bool t]) := by rw [h]

/-- What Get answers. -/
def getV (xs : List Nat) (at_ n : Int) : Int := ((le (win xs at_.toNat n.toNat) : Nat) : Int)

set_option maxRecDepth 20000 in
set_option maxHeartbeats 400000 in
theorem get_yes (v : Value) (xs : List Nat) (B : Nat) (at_ n : Int) (w : World) (h : Bts w B v xs) (hf : Fit xs.length at_ n) :
    Calls Try.prog 53 #[v, .int .i64 at_, .int .i64 n] w fun e w' => e = .returned (.tuple #[.int .u64 (getV xs at_ n), .bool true]) ∧ w = w' := by
  obtain ⟨A, l, c, rfl, hl, hm, _, _, hb, hx⟩ := h
  have HM := Lib.hid hm
  unfold maxLen at hm
  obtain ⟨h1, h2, h3, h4⟩ := hf
  obtain ⟨a, rfl⟩ := Int.eq_ofNat_of_zero_le h3
  obtain ⟨m, rfl⟩ := Int.eq_ofNat_of_zero_le h1
  have h5 : a + m ≤ l := by omega
  have h6 : m ≤ 8 := by omega
  have HF := Lib.hid (fits_yes A l c a m w HM.out ⟨h1, h2, h3, by rw [← hl]; exact h4⟩)
  clear h1 h2 h3 h4
  have HL := Lib.hid hl
  clear hl
  have HB := Lib.hid hb
  clear hb
  have HX := Lib.hid hx
  clear hx
  go_enter Try.func53, Try.ntmps53
  go_wp2_with (go_at_call 54; refine (HF.out).mono ?_; rintro e w' ⟨rfl, rfl⟩)
  go_loop [8, 16] (fun s i => ∃ k : Nat, k ≤ m ∧ i = .int .i64 k ∧ s = .int .u64 ((le (win xs a k) : Nat) : Int)) (fun _ i => m - (intOf i).toNat)
  case atStart => exact ⟨0, Nat.zero_le _, rfl, by rw [win, List.take_zero]; rfl⟩
  case round =>
    obtain ⟨k, hk, rfl, rfl⟩ := hrel
    by_cases hlt : k < m
    · obtain ⟨b, off, rfl, _, hc⟩ := HX.out (by omega)
      have hcell := hc (a + k) (by omega)
      have hx8 := HB.out (a + k) (by omega)
      obtain ⟨y, hy⟩ : ∃ y, y = xs.getD (a + k) 0 := ⟨_, rfl⟩
      rw [← hy] at hcell hx8
      have HS := Lib.hid (show le (win xs a (k + 1)) = le (win xs a k ++ [y]) by rw [win_snoc xs a k (by rw [HL.out]; omega), hy])
      clear hc hy
      have hx0 : (0 : Int) ≤ (y : Int) := by omega
      have hx1 : (y : Int) < 256 := by omega
      go_wp2
      go_round
      case rel =>
        refine ⟨k + 1, by omega, by go_num, ?_⟩
        rw [HS.out, le_or (win xs a k) k y (win_length _ _ _ (by rw [HL.out]; omega)) (by omega) (win_byte _ _ _ (by rw [HL.out]; exact HB.out)) hx8]
      case measure => simp [intOf]; omega
    · obtain rfl : k = m := by omega
      go_wp2
      go_ret2
      exact ⟨ret_u64_bool (by unfold getV; simp), rfl⟩

set_option maxRecDepth 20000 in
set_option maxHeartbeats 400000 in
theorem get_no (A : Option Addr) (l c : Nat) (at_ n : Int) (w : World) (hl : l ≤ maxLen) (hf : NoFit l at_ n) :
    Calls Try.prog 53 #[.slice A l c, .int .i64 at_, .int .i64 n] w fun e w' => e = .returned (.tuple #[.int .u64 0, .bool false]) ∧ w = w' := by
  have HF := Lib.hid (fits_no A l c at_ n w hl hf)
  clear hf
  go_enter Try.func53, Try.ntmps53
  go_wp2_with (go_at_call 54; refine (HF.out).mono ?_; rintro e w' ⟨rfl, rfl⟩)
  go_ret2
  exact ⟨rfl, rfl⟩
end Go.Proofs.Ytckabekimdcdcaa
