/-
  The library's DeleteFunc over pages, with the closure of Keys.
  The library's DeleteFunc over pages: the walk.
  Conditions: those that each line bears.
-/
import Derived.Test.YtaonpmclkafjdaaGreatQz32
import Derived.Lib.SliceRun
set_option linter.unusedSimpArgs false
set_option linter.unusedSectionVars false
set_option linter.unusedVariables false
namespace Go.Proofs.YtaonpmclkafjdaaGreat
open Go.RowKit
set_option linter.unusedVariables false
end Go.Proofs.YtaonpmclkafjdaaGreat
namespace Go.Proofs.YtaonpmclkafjdaaGreat
open Go.RowKit
set_option linter.unusedVariables false
section
variable {g cap bx B i j:Nat}{l:List Pl}{file:Int}{w W W1 W2:World}
end
end Go.Proofs.YtaonpmclkafjdaaGreat
