/-
  The document's own Entry.
  Conditions: none .
-/
import Derived.Test.YtegoookllckhiaaEntP
import Derived.Test.YtegoookllckhiaaProg
import Derived.BigQuiet
import Derived.Deep.RegionHeld3
namespace Go.Proofs.Ytegoookllckhiaa
open Go.RowKit
set_option linter.unusedVariables false

set_option maxRecDepth 20000 in
set_option maxHeartbeats 800000 in
theorem refEntry_any (k n : Int) (b : Bool) (w : World) :
    Calls Try.prog 13 #[.agg #[.int .i64 k, .int .i64 n, .bool b]] w fun e w' => e = .returned (.bool (decide (EnOk ⟨k, n, b⟩))) ∧ Below w.heap.size w w' := by
  have HB := Lib.hid ((Below.refl w.heap.size w).alloc (Nat.le_refl _) (.cells #[.int .i64 k, .int .i64 n, .bool b] 35))
  by_cases h1 : k = 1
  · subst h1
    by_cases c0 : 0 ≤ n
    · have d0 : decide (0 ≤ n) = true := decide_eq_true c0
      by_cases c1 : n < 1024
      · have d1 : decide (n < 1024) = true := decide_eq_true c1
        rw [decide_eq_true (show EnOk ⟨1, n, b⟩ from .inl ⟨rfl, c0, c1⟩)]
        go_enter Try.func13, Try.ntmps13
        go_wp2
        go_ret
        exact ⟨rfl, HB.out⟩
      · have d1 : decide (n < 1024) = false := decide_eq_false c1
        rw [decide_eq_false (show ¬ EnOk ⟨1, n, b⟩ from by unfold EnOk; simp; omega)]
        go_enter Try.func13, Try.ntmps13
        go_wp2
        go_ret
        exact ⟨rfl, HB.out⟩
    · have d0 : decide (0 ≤ n) = false := decide_eq_false c0
      rw [decide_eq_false (show ¬ EnOk ⟨1, n, b⟩ from by unfold EnOk; simp; omega)]
      go_enter Try.func13, Try.ntmps13
      go_wp2
      go_ret
      exact ⟨rfl, HB.out⟩
  · have e1 : (k == 1) = false := by simpa using h1
    by_cases h2 : k = 2
    · subst h2
      by_cases c0 : 0 ≤ n
      · have d0 : decide (0 ≤ n) = true := decide_eq_true c0
        by_cases c1 : n < 32
        · have d1 : decide (n < 32) = true := decide_eq_true c1
          rw [show decide (EnOk ⟨2, n, b⟩) = !b from by
            unfold EnOk
            cases b <;> simp <;> omega]
          cases b
          all_goals
            go_enter Try.func13, Try.ntmps13
            go_wp2
            go_ret
            exact ⟨rfl, HB.out⟩
        · have d1 : decide (n < 32) = false := decide_eq_false c1
          rw [decide_eq_false (show ¬ EnOk ⟨2, n, b⟩ from by unfold EnOk; simp; omega)]
          go_enter Try.func13, Try.ntmps13
          go_wp2
          go_ret
          exact ⟨rfl, HB.out⟩
      · have d0 : decide (0 ≤ n) = false := decide_eq_false c0
        rw [decide_eq_false (show ¬ EnOk ⟨2, n, b⟩ from by unfold EnOk; simp; omega)]
        go_enter Try.func13, Try.ntmps13
        go_wp2
        go_ret
        exact ⟨rfl, HB.out⟩
    · have e2 : (k == 2) = false := by simpa using h2
      by_cases h3 : k = 0 ∨ k = 3
      · by_cases c0 : n = 0
        · subst c0
          rw [show decide (EnOk ⟨k, 0, b⟩) = !b from by
            unfold EnOk
            cases b <;> simp <;> omega]
          rcases h3 with rfl | rfl
          all_goals
            cases b
            all_goals
              go_enter Try.func13, Try.ntmps13
              go_wp2
              go_ret
              exact ⟨rfl, HB.out⟩
        · have e3 : (n == 0) = false := by simpa using c0
          rw [decide_eq_false (show ¬ EnOk ⟨k, n, b⟩ from by unfold EnOk; simp; omega)]
          rcases h3 with rfl | rfl
          all_goals
            go_enter Try.func13, Try.ntmps13
            go_wp2
            go_ret
            exact ⟨rfl, HB.out⟩
      · have e0 : (k == 0) = false := by simp; omega
        have e3 : (k == 3) = false := by simp; omega
        rw [decide_eq_false (show ¬ EnOk ⟨k, n, b⟩ from by unfold EnOk; simp; omega)]
        go_enter Try.func13, Try.ntmps13
        go_wp2
        go_ret
        exact ⟨rfl, HB.out⟩
end Go.Proofs.Ytegoookllckhiaa
