/-
  A disk that fails once: what each work answers, and what is to come.
  Conditions: none.
-/
import Derived.Test.YtckabekimdcdcaaGen
namespace Go.Proofs.Ytckabekimdcdcaa
open Go.RowKit
set_option linter.unusedVariables false

/-- A disk that fails once: what is to come behind j works. -/
theorem tn_once (a j : Nat) : tn ⟨a, 1, false, 0, false⟩ j = ⟨a - j, if j ≤ a then 1 else 0, false, 0, false⟩ := by
  induction j with
  | zero => simp [tn]
  | succ j ih =>
    rw [tn, ih]
    unfold Tr.next
    rw [if_neg (by simp)]
    by_cases c : j < a
    · have c1 : 0 < a - j := by omega
      have c2 : j ≤ a := by omega
      have c3 : j + 1 ≤ a := by omega
      simp [c1, c2, c3]
      omega
    · have c1 : a - j = 0 := by omega
      have c3 : ¬ j + 1 ≤ a := by omega
      by_cases c4 : j = a
      · subst c4
        simp
      · have c2 : ¬ j ≤ a := by omega
        simp [c1, c2, c3]
        omega
theorem ans_once (a j : Nat) : (tn ⟨a, 1, false, 0, false⟩ j).ans = if j = a then 6 else 0 := by
  rw [tn_once]
  unfold Tr.ans
  rw [if_neg (by simp)]
  by_cases c : j = a
  · subst c
    simp
  · by_cases c1 : j < a
    · have : 0 < a - j := by omega
      simp [c, this]
    · have c2 : a - j = 0 := by omega
      have c3 : ¬ j ≤ a := by omega
      simp [c, c2, c3]
theorem once_done (a : Nat) : tn ⟨a, 1, false, 0, false⟩ (a + 1) = Tr.none_ := by
  rw [tn_once]
  simp [Tr.none_]
end Go.Proofs.Ytckabekimdcdcaa
