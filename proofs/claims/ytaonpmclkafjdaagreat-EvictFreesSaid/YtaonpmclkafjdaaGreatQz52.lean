/-
  The library's sort of integers at this program: the row is sorted, and nothing else that was there turns.
  Conditions: those that each line bears.
-/
import Derived.Shelf.Sort.Plain
import Derived.Test.YtaonpmclkafjdaaGreatProg
set_option linter.unusedSimpArgs false
set_option linter.unusedSectionVars false
set_option linter.unusedVariables false
namespace Go.Proofs
open Go.Shelf
end Go.Proofs
