/-
  Layer 9's four statements, for any numbers: they answer true, and write nothing that was there.
  Conditions: none.
-/
import Derived.Test.YtknjjhfhlhoifaaSectC
namespace Go.Proofs.Ytknjjhfhlhoifaa
open Go.RowKit
set_option linter.unusedVariables false

theorem sectAnswers_any (w : World) :
    Calls Try.prog 9 #[] w fun e w' => e = .returned (.bool true) ∧ w = w' := by
  go_enter Try.func9, Try.ntmps9
  go_wp2_with fail
  refine (sectNext_any _ _ _ _).mono ?_
  rintro e w' ⟨rfl, rfl⟩
  rw [show nxV 0 1 0 = .tuple #[.int .i64 1, .int .i64 0] from rfl]
  go_wp2_with fail
  refine (sectOf_any _ _).mono ?_
  rintro e w' ⟨rfl, rfl⟩
  rw [show ofV 33 = .tuple #[.int .i64 1, .bool true] from rfl]
  go_wp2_with fail
  go_ret
  exact ⟨rfl, rfl⟩

theorem sectSteps_any (s t z : Int) (w : World) :
    Calls Try.prog 3 #[.int .i64 s, .int .i64 t, .int .i64 z] w fun e w' => e = .returned (.bool true) ∧ Below w.heap.size w w' := by
  obtain ⟨a, e, hae⟩ : ∃ a e, nxV s t z = .tuple #[.int .i64 a, .int .i64 e] := ⟨_, _, rfl⟩
  have HAE := Lib.hid hae
  clear hae
  go_enter Try.func3, Try.ntmps3
  go_wp2_with fail
  refine (sectNext_any _ _ _ _).mono ?_
  rintro e w' ⟨rfl, rfl⟩
  rw [HAE.out]
  go_wp2_with fail
  refine (refNext_any _ _ _ _).mono ?_
  rintro e w' ⟨rfl, rfl⟩
  rw [HAE.out]
  have e1 : (a == a) = true := by simp
  have e2 : (e == e) = true := by simp
  go_wp2_with fail
  refine (sectAnswers_any _).mono ?_
  rintro e w' ⟨rfl, rfl⟩
  go_wp2_with fail
  go_ret
  exact ⟨rfl, Below.refl _ _⟩

theorem sectRounds_any (m : Bool) (w : World) :
    Calls Try.prog 4 #[.bool m] w fun e w' => e = .returned (.bool true) ∧ Below w.heap.size w w' := by
  cases m
  · go_enter Try.func4, Try.ntmps4
    go_wp2_with fail
    refine (sectNext_any _ _ _ _).mono ?_
    rintro e w' ⟨rfl, rfl⟩
    rw [show nxV 0 1 0 = .tuple #[.int .i64 1, .int .i64 0] from rfl]
    go_wp2_with fail
    refine (sectNext_any _ _ _ _).mono ?_
    rintro e w' ⟨rfl, rfl⟩
    rw [show nxV 1 2 2 = .tuple #[.int .i64 2, .int .i64 0] from rfl]
    go_wp2_with fail
    refine (sectNext_any _ _ _ _).mono ?_
    rintro e w' ⟨rfl, rfl⟩
    rw [show nxV 2 3 0 = .tuple #[.int .i64 0, .int .i64 5] from rfl]
    go_wp2_with fail
    refine (sectAnswers_any _).mono ?_
    rintro e w' ⟨rfl, rfl⟩
    go_wp2_with fail
    go_ret
    exact ⟨rfl, Below.refl _ _⟩
  · go_enter Try.func4, Try.ntmps4
    go_wp2_with fail
    refine (sectNext_any _ _ _ _).mono ?_
    rintro e w' ⟨rfl, rfl⟩
    rw [show nxV 0 1 0 = .tuple #[.int .i64 1, .int .i64 0] from rfl]
    go_wp2_with fail
    refine (sectNext_any _ _ _ _).mono ?_
    rintro e w' ⟨rfl, rfl⟩
    rw [show nxV 1 2 3 = .tuple #[.int .i64 3, .int .i64 0] from rfl]
    go_wp2_with fail
    refine (sectNext_any _ _ _ _).mono ?_
    rintro e w' ⟨rfl, rfl⟩
    rw [show nxV 3 3 0 = .tuple #[.int .i64 1, .int .i64 0] from rfl]
    go_wp2_with fail
    refine (sectNext_any _ _ _ _).mono ?_
    rintro e w' ⟨rfl, rfl⟩
    rw [show nxV 1 4 0 = .tuple #[.int .i64 0, .int .i64 0] from rfl]
    go_wp2_with fail
    refine (sectAnswers_any _).mono ?_
    rintro e w' ⟨rfl, rfl⟩
    go_wp2_with fail
    go_ret
    exact ⟨rfl, Below.refl _ _⟩

theorem nx_one : ∀ (s : Fin 4) (t : Fin 6) (z : Fin 5), (nx s.val t.val z.val).2 ≠ 0 ∧ (nx s.val t.val z.val).1 = 0 ∨ (nx s.val t.val z.val).2 = 0 ∧ 0 ≤ (nx s.val t.val z.val).1 ∧ (nx s.val t.val z.val).1 ≤ 3 ∧ (nx s.val t.val z.val).1 ≠ s.val := by decide
set_option maxHeartbeats 800000 in
theorem sectOne_any (s t z : Nat) (w : World) (hs : s < 256) (ht : t < 256) (hz : z < 256) :
    Calls Try.prog 6 #[.int .u8 (s : Int), .int .u8 (t : Int), .int .u8 (z : Int)] w fun e w' => e = .returned (.bool true) ∧ Below w.heap.size w w' := by
  obtain ⟨x, hx⟩ : ∃ x, x = s % 4 := ⟨_, rfl⟩
  obtain ⟨y, hy⟩ : ∃ y, y = t % 6 := ⟨_, rfl⟩
  obtain ⟨q, hq⟩ : ∃ q, q = z % 5 := ⟨_, rfl⟩
  have HX := Lib.hid (show ((s : Int) % 4) = (x : Int) by omega)
  have HY := Lib.hid (show ((t : Int) % 6) = (y : Int) by omega)
  have HQ := Lib.hid (show ((z : Int) % 5) = (q : Int) by omega)
  have h1 := nx_one ⟨x, by omega⟩ ⟨y, by omega⟩ ⟨q, by omega⟩
  obtain ⟨a, e, hae, hp⟩ : ∃ a e, nxV x y q = .tuple #[.int .i64 a, .int .i64 e] ∧ (e ≠ 0 ∧ a = 0 ∨ e = 0 ∧ 0 ≤ a ∧ a ≤ 3 ∧ a ≠ (x : Int)) := ⟨_, _, rfl, h1⟩
  have HAE := Lib.hid hae
  clear hae h1 hx hy hq
  rcases hp with ⟨he, ha⟩ | ⟨he, ha0, ha3, hax⟩
  · have d1 : (e != 0) = true := by simp [he]
    have d2 : (a == 0) = true := by simp [ha]
    subst ha
    go_enter Try.func6, Try.ntmps6
    go_wp2_with fail
    rw [HX.out, HY.out, HQ.out]
    refine (sectNext_any _ _ _ _).mono ?_
    rintro e w' ⟨rfl, rfl⟩
    rw [HAE.out]
    go_wp2_with fail
    refine (sectAnswers_any _).mono ?_
    rintro e w' ⟨rfl, rfl⟩
    go_wp2_with fail
    go_ret
    exact ⟨rfl, Below.refl _ _⟩
  · subst he
    have d2 : decide (0 ≤ a) = true := decide_eq_true ha0
    have d3 : decide (a ≤ 3) = true := decide_eq_true ha3
    have d4 : (a != (x : Int)) = true := by simp [hax]
    go_enter Try.func6, Try.ntmps6
    go_wp2_with fail
    rw [HX.out, HY.out, HQ.out]
    refine (sectNext_any _ _ _ _).mono ?_
    rintro e w' ⟨rfl, rfl⟩
    rw [HAE.out]
    go_wp2_with fail
    refine (sectAnswers_any _).mono ?_
    rintro e w' ⟨rfl, rfl⟩
    go_wp2_with fail
    go_ret
    refine ⟨?_, Below.refl _ _⟩
    rw [HX.out, d4]
    rfl

set_option maxHeartbeats 1600000 in
theorem sectFrames_law (f s : Int) (w : World) :
    Calls Try.prog 5 #[.int .i64 f, .int .i64 s] w fun e w' => e = .returned (.bool true) ∧ Below w.heap.size w w' := by
  have hf : (0 ≤ f ∧ f < 1024) ∨ f < 0 ∨ 1024 ≤ f := by omega
  have hs : (0 ≤ s ∧ s < 32) ∨ s < 0 ∨ 32 ≤ s := by omega
  rcases hf with hf | hf | hf
  · have HF := Lib.hid (show ofV f = .tuple #[.int .i64 (f / 32), .bool true] by unfold ofV; rw [if_pos hf])
    have d1 : decide (0 ≤ f) = true := decide_eq_true hf.1
    have d2 : decide (f < 1024) = true := decide_eq_true hf.2
    rcases hs with hs | hs | hs
    · have HS := Lib.hid (show frV s = .tuple #[.int .i64 (s * 32), .int .i64 (s * 32 + 32)] by unfold frV; rw [if_pos hs])
      have d3 : decide (0 ≤ s) = true := decide_eq_true hs.1
      have d4 : decide (s < 32) = true := decide_eq_true hs.2
      have d5 : (s * 32 + 32 - s * 32 == (32 : Int)) = true := by simp; omega
      obtain ⟨hs1, hs2⟩ := hs
      obtain ⟨hf1, hf2⟩ := hf
      by_cases h : f / 32 = s
      · have d6 : (f / 32 == s) = true := by simp [h]
        have d7 : decide (s * 32 ≤ f) = true := decide_eq_true (by omega)
        have d8 : decide (f < s * 32 + 32) = true := decide_eq_true (by omega)
        go_enter Try.func5, Try.ntmps5
        go_wp2_with fail
        refine (sectOf_any _ _).mono ?_
        rintro e w' ⟨rfl, rfl⟩
        rw [HF.out]
        go_wp2_with fail
        refine (sectFrames_any _ _).mono ?_
        rintro e w' ⟨rfl, rfl⟩
        rw [HS.out]
        go_wp2_with fail
        refine (sectAnswers_any _).mono ?_
        rintro e w' ⟨rfl, rfl⟩
        go_wp2_with fail
        go_ret
        exact ⟨rfl, Below.refl _ _⟩
      · have d6 : (f / 32 == s) = false := by simp [h]
        by_cases h7 : s * 32 ≤ f
        · have d7 : decide (s * 32 ≤ f) = true := decide_eq_true h7
          have d8 : decide (f < s * 32 + 32) = false := decide_eq_false (by omega)
          go_enter Try.func5, Try.ntmps5
          go_wp2_with fail
          refine (sectOf_any _ _).mono ?_
          rintro e w' ⟨rfl, rfl⟩
          rw [HF.out]
          go_wp2_with fail
          refine (sectFrames_any _ _).mono ?_
          rintro e w' ⟨rfl, rfl⟩
          rw [HS.out]
          go_wp2_with fail
          refine (sectAnswers_any _).mono ?_
          rintro e w' ⟨rfl, rfl⟩
          go_wp2_with fail
          go_ret
          exact ⟨rfl, Below.refl _ _⟩
        · have d7 : decide (s * 32 ≤ f) = false := decide_eq_false h7
          go_enter Try.func5, Try.ntmps5
          go_wp2_with fail
          refine (sectOf_any _ _).mono ?_
          rintro e w' ⟨rfl, rfl⟩
          rw [HF.out]
          go_wp2_with fail
          refine (sectFrames_any _ _).mono ?_
          rintro e w' ⟨rfl, rfl⟩
          rw [HS.out]
          go_wp2_with fail
          refine (sectAnswers_any _).mono ?_
          rintro e w' ⟨rfl, rfl⟩
          go_wp2_with fail
          go_ret
          exact ⟨rfl, Below.refl _ _⟩
    · have HS := Lib.hid (show frV s = .tuple #[.int .i64 0, .int .i64 0] by unfold frV; rw [if_neg (by omega)])
      have d3 : decide (0 ≤ s) = false := decide_eq_false (by omega)
      go_enter Try.func5, Try.ntmps5
      go_wp2_with fail
      refine (sectOf_any _ _).mono ?_
      rintro e w' ⟨rfl, rfl⟩
      rw [HF.out]
      go_wp2_with fail
      refine (sectFrames_any _ _).mono ?_
      rintro e w' ⟨rfl, rfl⟩
      rw [HS.out]
      go_wp2_with fail
      refine (sectAnswers_any _).mono ?_
      rintro e w' ⟨rfl, rfl⟩
      go_wp2_with fail
      go_ret
      exact ⟨rfl, Below.refl _ _⟩
    · have HS := Lib.hid (show frV s = .tuple #[.int .i64 0, .int .i64 0] by unfold frV; rw [if_neg (by omega)])
      have d3 : decide (0 ≤ s) = true := decide_eq_true (by omega)
      have d4 : decide (s < 32) = false := decide_eq_false (by omega)
      go_enter Try.func5, Try.ntmps5
      go_wp2_with fail
      refine (sectOf_any _ _).mono ?_
      rintro e w' ⟨rfl, rfl⟩
      rw [HF.out]
      go_wp2_with fail
      refine (sectFrames_any _ _).mono ?_
      rintro e w' ⟨rfl, rfl⟩
      rw [HS.out]
      go_wp2_with fail
      refine (sectAnswers_any _).mono ?_
      rintro e w' ⟨rfl, rfl⟩
      go_wp2_with fail
      go_ret
      exact ⟨rfl, Below.refl _ _⟩
  · have HF := Lib.hid (show ofV f = .tuple #[.int .i64 0, .bool false] by unfold ofV; rw [if_neg (by omega)])
    have d1 : decide (0 ≤ f) = false := decide_eq_false (by omega)
    rcases hs with hs | hs | hs
    · have HS := Lib.hid (show frV s = .tuple #[.int .i64 (s * 32), .int .i64 (s * 32 + 32)] by unfold frV; rw [if_pos hs])
      have d3 : decide (0 ≤ s) = true := decide_eq_true hs.1
      have d4 : decide (s < 32) = true := decide_eq_true hs.2
      have d5 : (s * 32 + 32 - s * 32 == (32 : Int)) = true := by simp; omega
      obtain ⟨hs1, hs2⟩ := hs
      go_enter Try.func5, Try.ntmps5
      go_wp2_with fail
      refine (sectOf_any _ _).mono ?_
      rintro e w' ⟨rfl, rfl⟩
      rw [HF.out]
      go_wp2_with fail
      refine (sectFrames_any _ _).mono ?_
      rintro e w' ⟨rfl, rfl⟩
      rw [HS.out]
      go_wp2_with fail
      refine (sectAnswers_any _).mono ?_
      rintro e w' ⟨rfl, rfl⟩
      go_wp2_with fail
      go_ret
      exact ⟨rfl, Below.refl _ _⟩
    · have HS := Lib.hid (show frV s = .tuple #[.int .i64 0, .int .i64 0] by unfold frV; rw [if_neg (by omega)])
      have d3 : decide (0 ≤ s) = false := decide_eq_false (by omega)
      go_enter Try.func5, Try.ntmps5
      go_wp2_with fail
      refine (sectOf_any _ _).mono ?_
      rintro e w' ⟨rfl, rfl⟩
      rw [HF.out]
      go_wp2_with fail
      refine (sectFrames_any _ _).mono ?_
      rintro e w' ⟨rfl, rfl⟩
      rw [HS.out]
      go_wp2_with fail
      refine (sectAnswers_any _).mono ?_
      rintro e w' ⟨rfl, rfl⟩
      go_wp2_with fail
      go_ret
      exact ⟨rfl, Below.refl _ _⟩
    · have HS := Lib.hid (show frV s = .tuple #[.int .i64 0, .int .i64 0] by unfold frV; rw [if_neg (by omega)])
      have d3 : decide (0 ≤ s) = true := decide_eq_true (by omega)
      have d4 : decide (s < 32) = false := decide_eq_false (by omega)
      go_enter Try.func5, Try.ntmps5
      go_wp2_with fail
      refine (sectOf_any _ _).mono ?_
      rintro e w' ⟨rfl, rfl⟩
      rw [HF.out]
      go_wp2_with fail
      refine (sectFrames_any _ _).mono ?_
      rintro e w' ⟨rfl, rfl⟩
      rw [HS.out]
      go_wp2_with fail
      refine (sectAnswers_any _).mono ?_
      rintro e w' ⟨rfl, rfl⟩
      go_wp2_with fail
      go_ret
      exact ⟨rfl, Below.refl _ _⟩
  · have HF := Lib.hid (show ofV f = .tuple #[.int .i64 0, .bool false] by unfold ofV; rw [if_neg (by omega)])
    have d1 : decide (0 ≤ f) = true := decide_eq_true (by omega)
    have d2 : decide (f < 1024) = false := decide_eq_false (by omega)
    rcases hs with hs | hs | hs
    · have HS := Lib.hid (show frV s = .tuple #[.int .i64 (s * 32), .int .i64 (s * 32 + 32)] by unfold frV; rw [if_pos hs])
      have d3 : decide (0 ≤ s) = true := decide_eq_true hs.1
      have d4 : decide (s < 32) = true := decide_eq_true hs.2
      have d5 : (s * 32 + 32 - s * 32 == (32 : Int)) = true := by simp; omega
      obtain ⟨hs1, hs2⟩ := hs
      go_enter Try.func5, Try.ntmps5
      go_wp2_with fail
      refine (sectOf_any _ _).mono ?_
      rintro e w' ⟨rfl, rfl⟩
      rw [HF.out]
      go_wp2_with fail
      refine (sectFrames_any _ _).mono ?_
      rintro e w' ⟨rfl, rfl⟩
      rw [HS.out]
      go_wp2_with fail
      refine (sectAnswers_any _).mono ?_
      rintro e w' ⟨rfl, rfl⟩
      go_wp2_with fail
      go_ret
      exact ⟨rfl, Below.refl _ _⟩
    · have HS := Lib.hid (show frV s = .tuple #[.int .i64 0, .int .i64 0] by unfold frV; rw [if_neg (by omega)])
      have d3 : decide (0 ≤ s) = false := decide_eq_false (by omega)
      go_enter Try.func5, Try.ntmps5
      go_wp2_with fail
      refine (sectOf_any _ _).mono ?_
      rintro e w' ⟨rfl, rfl⟩
      rw [HF.out]
      go_wp2_with fail
      refine (sectFrames_any _ _).mono ?_
      rintro e w' ⟨rfl, rfl⟩
      rw [HS.out]
      go_wp2_with fail
      refine (sectAnswers_any _).mono ?_
      rintro e w' ⟨rfl, rfl⟩
      go_wp2_with fail
      go_ret
      exact ⟨rfl, Below.refl _ _⟩
    · have HS := Lib.hid (show frV s = .tuple #[.int .i64 0, .int .i64 0] by unfold frV; rw [if_neg (by omega)])
      have d3 : decide (0 ≤ s) = true := decide_eq_true (by omega)
      have d4 : decide (s < 32) = false := decide_eq_false (by omega)
      go_enter Try.func5, Try.ntmps5
      go_wp2_with fail
      refine (sectOf_any _ _).mono ?_
      rintro e w' ⟨rfl, rfl⟩
      rw [HF.out]
      go_wp2_with fail
      refine (sectFrames_any _ _).mono ?_
      rintro e w' ⟨rfl, rfl⟩
      rw [HS.out]
      go_wp2_with fail
      refine (sectAnswers_any _).mono ?_
      rintro e w' ⟨rfl, rfl⟩
      go_wp2_with fail
      go_ret
      exact ⟨rfl, Below.refl _ _⟩
end Go.Proofs.Ytknjjhfhlhoifaa
