/-
  The contracts of swap's calls, proved over the landed code, as the statements' walks ask for them.
  Conditions: those that each line bears.
-/
import Derived.Test.YtaonpmclkafjdaaGreatQz36
import Derived.Test.YtaonpmclkafjdaaGreatQz29
set_option linter.unusedSimpArgs false
set_option linter.unusedSectionVars false
set_option linter.unusedVariables false
namespace Go.Proofs.YtaonpmclkafjdaaGreat
open Go.RowKit
set_option linter.unusedVariables false
end Go.Proofs.YtaonpmclkafjdaaGreat
