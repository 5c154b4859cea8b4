/-
  The contracts of layer 9's calls (sect): Next, Frames, Of.
  Conditions: none.
-/
import Derived.Test.YtknjjhfhlhoifaaSect
namespace Go.Proofs.Ytknjjhfhlhoifaa
open Go.RowKit
set_option linter.unusedVariables false

set_option maxRecDepth 20000
set_option maxHeartbeats 1600000
theorem sect_add_any (s z : Int) (hs : s = 0 ∨ s = 1 ∨ s = 2 ∨ s = 3) (w : World) :
    Calls Try.prog 12 #[.int .i64 s] w fun e w' => e = .returned (nxV s 1 z) ∧ w = w' := by
  rcases hs with rfl | rfl | rfl | rfl
  all_goals
    go_enter Try.func12, Try.ntmps12
    go_wp2
    go_ret2
    exact ⟨rfl, rfl⟩
theorem sect_offline_any (s z : Int) (hs : s = 0 ∨ s = 1 ∨ s = 2 ∨ s = 3) (w : World) :
    Calls Try.prog 14 #[.int .i64 s] w fun e w' => e = .returned (nxV s 3 z) ∧ w = w' := by
  rcases hs with rfl | rfl | rfl | rfl
  all_goals
    go_enter Try.func14, Try.ntmps14
    go_wp2
    go_ret2
    exact ⟨rfl, rfl⟩
theorem sect_remove_any (s z : Int) (hs : s = 0 ∨ s = 1 ∨ s = 2 ∨ s = 3) (w : World) :
    Calls Try.prog 15 #[.int .i64 s] w fun e w' => e = .returned (nxV s 4 z) ∧ w = w' := by
  rcases hs with rfl | rfl | rfl | rfl
  all_goals
    go_enter Try.func15, Try.ntmps15
    go_wp2
    go_ret2
    exact ⟨rfl, rfl⟩
theorem sect_online_any (s z : Int) (hs : s = 0 ∨ s = 1 ∨ s = 2 ∨ s = 3) (w : World) :
    Calls Try.prog 13 #[.int .i64 s, .int .i64 z] w fun e w' => e = .returned (nxV s 2 z) ∧ w = w' := by
  by_cases z2 : z = 2
  · subst z2
    rcases hs with rfl | rfl | rfl | rfl
    all_goals
      go_enter Try.func13, Try.ntmps13
      go_wp2
      go_ret2
      exact ⟨rfl, rfl⟩
  · by_cases z3 : z = 3
    · subst z3
      rcases hs with rfl | rfl | rfl | rfl
      all_goals
        go_enter Try.func13, Try.ntmps13
        go_wp2
        go_ret2
        exact ⟨rfl, rfl⟩
    · have b2 : (z != 2) = true := by simp [z2]
      have b3 : (z != 3) = true := by simp [z3]
      rcases hs with rfl | rfl | rfl | rfl
      all_goals
        go_enter Try.func13, Try.ntmps13
        go_wp2
        go_ret2
        exact ⟨by simp [nxV, nx, z2, z3], rfl⟩
set_option maxRecDepth 20000 in
set_option maxHeartbeats 1600000 in
theorem sectNext_any (s t z : Int) (w : World) :
    Calls Try.prog 7 #[.int .i64 s, .int .i64 t, .int .i64 z] w fun e w' => e = .returned (nxV s t z) ∧ w = w' := by
  by_cases h1 : s < 0
  · have d1 : decide (s < 0) = true := decide_eq_true h1
    have e : nx s t z = (0, 1) := by unfold nx; rw [if_pos (Or.inl h1)]
    unfold nxV
    rw [e]
    go_enter Try.func7, Try.ntmps7
    go_wp2
    go_ret2
    exact ⟨rfl, rfl⟩
  · have d1 : decide (s < 0) = false := decide_eq_false h1
    by_cases h2 : 3 < s
    · have d2 : decide (3 < s) = true := decide_eq_true h2
      have e : nx s t z = (0, 1) := by unfold nx; rw [if_pos (Or.inr h2)]
      unfold nxV
      rw [e]
      go_enter Try.func7, Try.ntmps7
      go_wp2
      go_ret2
      exact ⟨rfl, rfl⟩
    · have d2 : decide (3 < s) = false := decide_eq_false h2
      have hs : s = 0 ∨ s = 1 ∨ s = 2 ∨ s = 3 := by omega
      by_cases ht : t = 1 ∨ t = 2 ∨ t = 3 ∨ t = 4
      · rcases ht with rfl | rfl | rfl | rfl
        · go_enter Try.func7, Try.ntmps7
          go_wp2_with fail
          refine (sect_add_any s z hs w).mono ?_
          rintro e w ⟨rfl, rfl⟩
          unfold nxV
          go_wp2
          go_ret2
          exact ⟨rfl, rfl⟩
        · go_enter Try.func7, Try.ntmps7
          go_wp2_with fail
          refine (sect_online_any s z hs w).mono ?_
          rintro e w ⟨rfl, rfl⟩
          unfold nxV
          go_wp2
          go_ret2
          exact ⟨rfl, rfl⟩
        · go_enter Try.func7, Try.ntmps7
          go_wp2_with fail
          refine (sect_offline_any s z hs w).mono ?_
          rintro e w ⟨rfl, rfl⟩
          unfold nxV
          go_wp2
          go_ret2
          exact ⟨rfl, rfl⟩
        · go_enter Try.func7, Try.ntmps7
          go_wp2_with fail
          refine (sect_remove_any s z hs w).mono ?_
          rintro e w ⟨rfl, rfl⟩
          unfold nxV
          go_wp2
          go_ret2
          exact ⟨rfl, rfl⟩
      · have b1 : (t == 1) = false := by simp; omega
        have b2 : (t == 2) = false := by simp; omega
        have b3 : (t == 3) = false := by simp; omega
        have b4 : (t == 4) = false := by simp; omega
        have n4 : t ≠ 4 := by omega
        have n1 : t ≠ 1 := by omega
        have n2 : t ≠ 2 := by omega
        have n3 : t ≠ 3 := by omega
        rcases hs with rfl | rfl | rfl | rfl
        all_goals
          go_enter Try.func7, Try.ntmps7
          go_wp2
          go_ret2
          exact ⟨by simp [nxV, nx, n1, n2, n3, n4], rfl⟩

def frV (s : Int) : Value := .tuple (if 0 ≤ s ∧ s < 32 then #[.int .i64 (s * 32), .int .i64 (s * 32 + 32)] else #[.int .i64 0, .int .i64 0])
def ofV (f : Int) : Value := .tuple (if 0 ≤ f ∧ f < 1024 then #[.int .i64 (f / 32), .bool true] else #[.int .i64 0, .bool false])
theorem sectFrames_any (s : Int) (w : World) : Calls Try.prog 11 #[.int .i64 s] w fun e w' => e = .returned (frV s) ∧ w = w' := by
  by_cases h1 : s < 0
  · have d1 : decide (s < 0) = true := decide_eq_true h1
    unfold frV
    rw [if_neg (by omega)]
    go_enter Try.func11, Try.ntmps11
    go_wp2
    go_ret2
    exact ⟨rfl, rfl⟩
  · have d1 : decide (s < 0) = false := decide_eq_false h1
    by_cases h2 : s < 32
    · have d2 : decide (32 ≤ s) = false := decide_eq_false (by omega)
      unfold frV
      rw [if_pos ⟨by omega, h2⟩]
      go_enter Try.func11, Try.ntmps11
      go_wp2
      go_ret2
      exact ⟨rfl, rfl⟩
    · have d2 : decide (32 ≤ s) = true := decide_eq_true (by omega)
      unfold frV
      rw [if_neg (by omega)]
      go_enter Try.func11, Try.ntmps11
      go_wp2
      go_ret2
      exact ⟨rfl, rfl⟩
theorem sectOf_any (f : Int) (w : World) : Calls Try.prog 10 #[.int .i64 f] w fun e w' => e = .returned (ofV f) ∧ w = w' := by
  by_cases h1 : f < 0
  · have d1 : decide (f < 0) = true := decide_eq_true h1
    unfold ofV
    rw [if_neg (by omega)]
    go_enter Try.func10, Try.ntmps10
    go_wp2
    go_ret2
    exact ⟨rfl, rfl⟩
  · have d1 : decide (f < 0) = false := decide_eq_false h1
    by_cases h2 : f < 1024
    · have d2 : decide (1024 ≤ f) = false := decide_eq_false (by omega)
      unfold ofV
      rw [if_pos ⟨by omega, h2⟩]
      go_enter Try.func10, Try.ntmps10
      go_wp2
      go_ret2
      exact ⟨rfl, rfl⟩
    · have d2 : decide (1024 ≤ f) = true := decide_eq_true (by omega)
      unfold ofV
      rw [if_neg (by omega)]
      go_enter Try.func10, Try.ntmps10
      go_wp2
      go_ret2
      exact ⟨rfl, rfl⟩
end Go.Proofs.Ytknjjhfhlhoifaa
