/-
  The contract of the document's own Ints: whether two lists of integers are one.
  Conditions: the lists are read in memory.
-/
import Derived.Test.YtkdniihnilcpfaaVals
import Derived.Test.YtkdniihnilcpfaaWrd
import Derived.Deep.LoopGhost
import Derived.BigQuiet
namespace Go.Proofs.Ytkdniihnilcpfaa
open Go.RowKit
set_option linter.unusedVariables false

theorem drew_tr {a b c : World} (h : Drew a b) (k : Drew b c) : Drew a c := by
  obtain ⟨m, rfl⟩ := h
  obtain ⟨n, rfl⟩ := k
  exact ⟨m + n, by simp [World.drewN, Nat.add_assoc]⟩
theorem drew_below {B : Nat} {a b : World} (h : Drew a b) : Below B a b := by
  obtain ⟨m, rfl⟩ := h
  exact below_drewN (Below.refl _ _) m
theorem intsL_of_getD {xs ys : List Int} (hl : xs.length = ys.length) (h : ∀ j, j < xs.length → xs.getD j 0 = ys.getD j 0) : xs = ys := by
  refine List.ext_getElem hl fun j h1 h2 => ?_
  have := h j h1
  simpa [h1, h2] using this
end Go.Proofs.Ytkdniihnilcpfaa
