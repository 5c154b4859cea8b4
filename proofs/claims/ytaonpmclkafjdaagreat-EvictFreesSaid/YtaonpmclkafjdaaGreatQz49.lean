/-
  The statements' own record of files' bytes: a block of bytes behind two lists.
  Conditions: those that each line bears.
-/
import Derived.Test.YtaonpmclkafjdaaGreatQz04
import Derived.Test.YtaonpmclkafjdaaGreatQz00
import Derived.Test.YtaonpmclkafjdaaGreatProg
import Derived.KernelRfl
set_option linter.unusedSimpArgs false
set_option linter.unusedSectionVars false
set_option linter.unusedVariables false
namespace Go.Proofs.YtaonpmclkafjdaaGreat
open Go.RowKit
set_option linter.unusedVariables false
section
variable {w w':World}{g:Nat}{F:Nat→Nat}
end
end Go.Proofs.YtaonpmclkafjdaaGreat
