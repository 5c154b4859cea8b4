/-
  A slice of bytes that came in.
  Conditions: none.
-/
import Derived.Test.YtkpjimpjopbdkaaVals
import Derived.Test.YtkpjimpjopbdkaaSlRow
namespace Go.Proofs.Ytkpjimpjopbdkaa
open Go.ChangeShapes Go.WideShapes Go.ChangeAt Go.RowKit Go.Deep
set_option linter.unusedVariables false

/-- As a row's proof asks for them. -/
def BtsW (w : World) (v : Value) (xs : List Nat) : Prop := Bts w w.heap.size v xs
theorem btsW_of {H : Type} {enc : TypeId × Value → H} {w : World} {fuel l c base : Nat} {A : Option Addr} {x : DataW H × List MemPlace} {hd : Bool} (h : DataW.trod enc Try.prog w base (fun _ => true) hd fuel 52 [.slice A l c] = some x) :
    ∃ xs, BtsW w (.slice A l c) xs ∧ xs.length = l ∧ l ≤ maxLen := by
  obtain ⟨xs, h⟩ := bytes_of h
  have h' := h
  obtain ⟨A', n, c', e, h1, h2, _⟩ := h'
  injection e with _ e2 _
  subst e2
  exact ⟨xs, h, h1, h2⟩
end Go.Proofs.Ytkpjimpjopbdkaa
