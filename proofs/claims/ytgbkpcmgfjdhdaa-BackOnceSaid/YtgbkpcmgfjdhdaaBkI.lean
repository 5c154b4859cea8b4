/-
  The contracts of the back map, proved over the landed code: Add, Drop, Of, Frames, Move and New, as the statements' walks ask for them.
  Conditions: those that each line bears.
-/
import Derived.Test.YtgbkpcmgfjdhdaaBkH
import Derived.Test.YtgbkpcmgfjdhdaaBkG
import Derived.Test.YtgbkpcmgfjdhdaaVals
namespace Go.Proofs.Ytgbkpcmgfjdhdaa
open Go.RowKit
set_option linter.unusedVariables false

theorem few0 : FewM bs0 := ⟨[], by simp, fun g h => absurd rfl h⟩
theorem few1 (f : Int) (l : List Pl) : FewM (updB bs0 f l) := ⟨[f], by simp, fun g h => by
  by_cases c : g = f
  · rw [c]; exact List.mem_cons_self
  · rw [updB_other _ _ _ c] at h
    exact absurd rfl h⟩
theorem few2 (f g : Int) (l m : List Pl) : FewM (updB (updB bs0 f l) g m) := ⟨[f, g], by simp, fun k h => by
  by_cases c : k = g
  · rw [c]; exact List.mem_cons_of_mem _ List.mem_cons_self
  · rw [updB_other _ _ _ c] at h
    by_cases d : k = f
    · rw [d]; exact List.mem_cons_self
    · rw [updB_other _ _ _ d] at h
      exact absurd rfl h⟩
end Go.Proofs.Ytgbkpcmgfjdhdaa
