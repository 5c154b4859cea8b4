/-
  A slice of integers that came in.
  Conditions: none.
-/
import Derived.Test.YtkdniihnilcpfaaVals
import Derived.Test.YtkdniihnilcpfaaSlRow
namespace Go.Proofs.Ytkdniihnilcpfaa
open Go.ChangeShapes Go.WideShapes Go.ChangeAt Go.RowKit Go.Deep
set_option linter.unusedVariables false

theorem its_of' {H : Type} {enc : TypeId × Value → H} {w : World} {k base : Nat} {y : DataW H × List MemPlace} {v : Value} {hd : Bool} (ht : DataW.trod enc Try.prog w base (fun _ => true) hd k 22 [v] = some y) : ∃ xs, Its w w.heap.size v xs := by
  rcases open_ints Try.underlying22 Try.underlying3 (by kernel_rfl) ht with ⟨hcs, _⟩ | ⟨x, l, c, zs, hcs, _, hl, hm, hz, _, hcell, hwz⟩
  · simp only [List.cons.injEq, and_true] at hcs
    subst hcs
    exact ⟨[], Its.nil_ _ _⟩
  · simp only [List.cons.injEq, and_true] at hcs
    subst hcs
    obtain ⟨xs, _, h, _⟩ := Its.of_row (w := w) (a := some x) (len := l) (cap := c) (zs := zs) (.inr ⟨x, rfl, hl, hm, by simpa using hz, hcell, hwz⟩)
    exact ⟨xs, h⟩
theorem its_of {H : Type} {enc : TypeId × Value → H} {w : World} {fuel l c base : Nat} {A : Option Addr} {x : DataW H × List MemPlace} {hd : Bool} (h : DataW.trod enc Try.prog w base (fun _ => true) hd fuel 22 [.slice A l c] = some x) :
    ∃ xs, Its w w.heap.size (.slice A l c) xs ∧ xs.length = l ∧ l ≤ maxLen := by
  obtain ⟨xs, h⟩ := its_of' h
  have h' := h
  obtain ⟨A', n, c', e, h1, h2, h3, _⟩ := h'
  injection e with _ e2 e3
  subst e2 e3
  exact ⟨xs, h, h1, by omega⟩
/-- As a row's proof asks for them. -/
def ItsW (w : World) (v : Value) (xs : List Int) : Prop := Its w w.heap.size v xs
theorem itsW_of {H : Type} {enc : TypeId × Value → H} {w : World} {fuel l c base : Nat} {A : Option Addr} {x : DataW H × List MemPlace} {hd : Bool} (h : DataW.trod enc Try.prog w base (fun _ => true) hd fuel 22 [.slice A l c] = some x) :
    ∃ xs, ItsW w (.slice A l c) xs ∧ xs.length = l ∧ l ≤ maxLen := its_of h
end Go.Proofs.Ytkdniihnilcpfaa
