/-
  The contract of the document's own Next; layer 9's calls and its four statements.
  Conditions: none.
-/
import Derived.Test.YtknjjhfhlhoifaaProg
import Derived.Below
import Derived.WalkKit
import Derived.Lib.Hide
import Derived.Deep.LoopGhost
import Derived.BigQuiet
namespace Go.Proofs.Ytknjjhfhlhoifaa
open Go.RowKit
set_option linter.unusedVariables false

/-- What a step makes of a state, or the error. -/
def nx (s t z : Int) : Int × Int :=
  if s < 0 ∨ 3 < s then (0, 1)
  else if t = 1 then (if s = 0 then (1, 0) else (0, 3))
  else if t = 2 then (if z ≠ 2 ∧ z ≠ 3 then (0, 1) else if s = 0 then (0, 2) else if s = 1 then (z, 0) else (0, 3))
  else if t = 3 then (if s = 0 ∨ s = 1 then (0, 2) else if s = 2 then (0, 5) else (1, 0))
  else if t = 4 then (if s = 0 then (0, 2) else if s = 1 then (0, 0) else (0, 5))
  else (0, 1)
def nxV (s t z : Int) : Value := .tuple #[.int .i64 (nx s t z).1, .int .i64 (nx s t z).2]

set_option maxRecDepth 20000 in
set_option maxHeartbeats 1600000 in
theorem refNext_any (s t z : Int) (w : World) :
    Calls Try.prog 8 #[.int .i64 s, .int .i64 t, .int .i64 z] w fun e w' => e = .returned (nxV s t z) ∧ w = w' := by
  by_cases h1 : s < 0
  · have d1 : decide (s < 0) = true := decide_eq_true h1
    have e : nx s t z = (0, 1) := by unfold nx; rw [if_pos (Or.inl h1)]
    unfold nxV
    rw [e]
    go_enter Try.func8, Try.ntmps8
    go_wp2
    go_ret2
    exact ⟨rfl, rfl⟩
  · have d1 : decide (s < 0) = false := decide_eq_false h1
    by_cases h2 : 3 < s
    · have d2 : decide (3 < s) = true := decide_eq_true h2
      have e : nx s t z = (0, 1) := by unfold nx; rw [if_pos (Or.inr h2)]
      unfold nxV
      rw [e]
      go_enter Try.func8, Try.ntmps8
      go_wp2
      go_ret2
      exact ⟨rfl, rfl⟩
    · have hs : s = 0 ∨ s = 1 ∨ s = 2 ∨ s = 3 := by omega
      clear h1 h2 d1
      by_cases ht : t = 1 ∨ t = 2 ∨ t = 3 ∨ t = 4
      · rcases ht with rfl | rfl | rfl | rfl
        · rcases hs with rfl | rfl | rfl | rfl
          all_goals
            go_enter Try.func8, Try.ntmps8
            go_wp2
            go_ret2
            exact ⟨rfl, rfl⟩
        · by_cases z2 : z = 2
          · subst z2
            rcases hs with rfl | rfl | rfl | rfl
            all_goals
              go_enter Try.func8, Try.ntmps8
              go_wp2
              go_ret2
              exact ⟨rfl, rfl⟩
          · by_cases z3 : z = 3
            · subst z3
              rcases hs with rfl | rfl | rfl | rfl
              all_goals
                go_enter Try.func8, Try.ntmps8
                go_wp2
                go_ret2
                exact ⟨rfl, rfl⟩
            · have b2 : (z != 2) = true := by simp [z2]
              have b3 : (z != 3) = true := by simp [z3]
              rcases hs with rfl | rfl | rfl | rfl
              all_goals
                go_enter Try.func8, Try.ntmps8
                go_wp2
                go_ret2
                exact ⟨by simp [nxV, nx, z2, z3], rfl⟩
        · rcases hs with rfl | rfl | rfl | rfl
          all_goals
            go_enter Try.func8, Try.ntmps8
            go_wp2
            go_ret2
            exact ⟨rfl, rfl⟩
        · rcases hs with rfl | rfl | rfl | rfl
          all_goals
            go_enter Try.func8, Try.ntmps8
            go_wp2
            go_ret2
            exact ⟨rfl, rfl⟩
      · have b1 : (t == 1) = false := by simp; omega
        have b2 : (t == 2) = false := by simp; omega
        have b3 : (t == 3) = false := by simp; omega
        have b4 : (t == 4) = false := by simp; omega
        have n4 : t ≠ 4 := by omega
        have n1 : t ≠ 1 := by omega
        have n2 : t ≠ 2 := by omega
        have n3 : t ≠ 3 := by omega
        rcases hs with rfl | rfl | rfl | rfl
        all_goals
          go_enter Try.func8, Try.ntmps8
          go_wp2
          go_ret2
          exact ⟨by simp [nxV, nx, n1, n2, n3, n4], rfl⟩
end Go.Proofs.Ytknjjhfhlhoifaa
