/-
  A slice of slices of bytes that came in, as bytes that lie in memory.
  Conditions: none beside those that each line bears.
-/
import Derived.Test.YtegoookllckhiaaProg
import Derived.Test.YtegoookllckhiaaBas
import Derived.OpenShut
import Derived.Deep.Slices
import Derived.Deep.Fields
import Derived.ChangeSame
import Derived.ProofKit
namespace Go.Proofs.Ytegoookllckhiaa
open Go.ChangeShapes Go.WideShapes Go.ChangeAt Go.RowKit Go.Deep
set_option linter.unusedVariables false

theorem Try.cellsB : Try.prog.cellsOf 112 = 1 := by kernel_rfl
/-- A slice of bytes. -/
theorem bytes_of {H : Type} {enc : TypeId × Value → H} {w : World} {k base : Nat} {y : DataW H × List MemPlace} {v : Value} {hd : Bool} (ht : DataW.trod enc Try.prog w base (fun _ => true) hd k 112 [v] = some y) : ∃ xs, Bts w w.heap.size v xs := by
  rcases open_ints Try.underlying112 Try.underlying5 (by kernel_rfl) ht with ⟨hcs, _⟩ | ⟨x, l, c, zs, hcs, _, hl, hm, hz, _, hcell, hwz⟩
  · simp only [List.cons.injEq, and_true] at hcs
    subst hcs
    exact ⟨[], Bts.nil_ _ _⟩
  · simp only [List.cons.injEq, and_true] at hcs
    subst hcs
    obtain ⟨xs, _, h⟩ := Bts.of_row (w := w) (a := some x) (len := l) (cap := c) (zs := zs) (.inr ⟨x, rfl, hl, hm, by simpa using hz, hcell, hwz⟩)
    exact ⟨xs, h⟩
end Go.Proofs.Ytegoookllckhiaa
