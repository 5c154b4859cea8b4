/-
  The acts of layer 12's statements, as they lie in memory.
  Conditions: none beside those that each line bears.
-/
import Derived.Test.YtegoookllckhiaaVals
import Derived.Test.YtegoookllckhiaaSlRow
import Derived.Test.YtegoookllckhiaaIntsRow
namespace Go.Proofs.Ytegoookllckhiaa
open Go.ChangeShapes Go.WideShapes Go.ChangeAt Go.RowKit Go.Deep
set_option linter.unusedVariables false

/-- One act: the page, and its entry. -/
structure Act12 where
  page : Int
  k : Int
  n : Int
  w : Bool
def Act12At (W : World) (g o : Nat) (x : Act12) : Prop :=
  g < W.heap.size ∧ W.cell? ⟨g, o, none⟩ = some (.int .i64 x.page) ∧ W.cell? ⟨g, o + 1, none⟩ = some (.int .i64 x.k) ∧ W.cell? ⟨g, o + 2, none⟩ = some (.int .i64 x.n) ∧ W.cell? ⟨g, o + 3, none⟩ = some (.bool x.w)
def Acts12 (w : World) (v : Value) (ps : List Act12) : Prop :=
  ∃ A n c, v = .slice A n c ∧ ps.length = n ∧ n ≤ maxLen ∧ (0 < n → ∃ b off, A = some ⟨b, off, none⟩ ∧ ∀ j x, ps[j]? = some x → Act12At w b (off + j * 4) x)
end Go.Proofs.Ytegoookllckhiaa
