/-
  The contract of the document's own Next; layer 9's calls and its four statements.
  Conditions: none.
-/
import Derived.Test.YtegoookllckhiaaProg
import Derived.Below
import Derived.WalkKit
import Derived.Lib.Hide
import Derived.Deep.LoopGhost
import Derived.BigQuiet
namespace Go.Proofs.Ytegoookllckhiaa
open Go.RowKit
set_option linter.unusedVariables false

/-- What a step makes of a state, or the error. -/
def nx (s t z : Int) : Int × Int :=
  if s < 0 ∨ 3 < s then (0, 1)
  else if t = 1 then (if s = 0 then (1, 0) else (0, 3))
  else if t = 2 then (if z ≠ 2 ∧ z ≠ 3 then (0, 1) else if s = 0 then (0, 2) else if s = 1 then (z, 0) else (0, 3))
  else if t = 3 then (if s = 0 ∨ s = 1 then (0, 2) else if s = 2 then (0, 5) else (1, 0))
  else if t = 4 then (if s = 0 then (0, 2) else if s = 1 then (0, 0) else (0, 5))
  else (0, 1)
def nxV (s t z : Int) : Value := .tuple #[.int .i64 (nx s t z).1, .int .i64 (nx s t z).2]

end Go.Proofs.Ytegoookllckhiaa
