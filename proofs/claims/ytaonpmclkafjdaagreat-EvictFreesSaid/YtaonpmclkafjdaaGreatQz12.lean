/-
  Memory and a pool side by side, with so many sections on line; how many frames are free.
  Conditions: those that each line bears.
-/
import Derived.Test.YtaonpmclkafjdaaGreatQz10
import Derived.Test.YtaonpmclkafjdaaGreatQz04
import Derived.Test.YtaonpmclkafjdaaGreatQz11
import Derived.Test.YtaonpmclkafjdaaGreatQz00
import Derived.Deep.LoopGhost
set_option linter.unusedSimpArgs false
set_option linter.unusedSectionVars false
set_option linter.unusedVariables false
namespace Go.Proofs.YtaonpmclkafjdaaGreat
open Go.RowKit
set_option linter.unusedVariables false
attribute [local irreducible] ps0 badU spanU
section
variable {w0 w w':World}{gR gF gP:Nat}{F:Nat→List Nat}{bad:Nat→Bool}{p:PS}
end
end Go.Proofs.YtaonpmclkafjdaaGreat
