/-
  PoolNone, and the short play that every statement of the pool ends with.
  PoolTwice answers true for any numbers.
  A pool that a statement holds, of which a thing is known: its calls; PoolTwice's walk.
  Conditions: those that each line bears.
-/
import Derived.Test.YtaonpmclkafjdaaGreatQz09
import Derived.Test.YtaonpmclkafjdaaGreatQz02
import Derived.Deep.LoopGhost
import Derived.BigQuiet
set_option linter.unusedSimpArgs false
set_option linter.unusedSectionVars false
set_option linter.unusedVariables false
namespace Go.Proofs.YtaonpmclkafjdaaGreat
open Go.RowKit
set_option linter.unusedVariables false
end Go.Proofs.YtaonpmclkafjdaaGreat
namespace Go.Proofs.YtaonpmclkafjdaaGreat
open Go.RowKit
set_option linter.unusedVariables false
attribute [local irreducible] ps0 badU spanU
end Go.Proofs.YtaonpmclkafjdaaGreat
namespace Go.Proofs.YtaonpmclkafjdaaGreat
open Go.RowKit
set_option linter.unusedVariables false
attribute [local irreducible] ps0 badU spanU
section
variable {w0 w w':World}{gS:Nat}{Q R:PS→Prop}
end
end Go.Proofs.YtaonpmclkafjdaaGreat
