/-
  The contract of disk's Crash; what a crash leaves; what a journal's disk has.
  Conditions: those that each line bears.
-/
import Derived.Test.YtaonpmclkafjdaaGreatQz00
import Derived.Shelf.Sort.Plain
import Derived.OwnWalk
import Derived.Test.YtaonpmclkafjdaaGreatQz04
import Derived.Test.YtaonpmclkafjdaaGreatQz52
set_option linter.unusedSimpArgs false
set_option linter.unusedSectionVars false
set_option linter.unusedVariables false
namespace Go.Proofs.YtaonpmclkafjdaaGreat
open Go.RowKit Go.Sort
set_option linter.unusedVariables false
abbrev nv (j:Nat):Value:=.int .i64 (j:Int)
section
variable {n:Nat}{L:Nat→Option (List Nat)}{left:Nat→Bool}{ss:List Nat}
end
section
variable {w:World}{base g cap n:Nat}{e:TypeId}{os:Array Obj}{cur:Array Value}
end
section
variable {P:Program}{k t e:TypeId}{w w':World}{b r n cnt:Nat}{L:Nat→Option (List Nat)}{left:Nat→Bool}
end
end Go.Proofs.YtaonpmclkafjdaaGreat
namespace Go.Proofs.YtaonpmclkafjdaaGreat
open Go.RowKit Go.Sort
set_option linter.unusedVariables false
end Go.Proofs.YtaonpmclkafjdaaGreat
namespace Go.Proofs.YtaonpmclkafjdaaGreat
open Go.RowKit
set_option linter.unusedVariables false
end Go.Proofs.YtaonpmclkafjdaaGreat
namespace Go.Proofs.YtaonpmclkafjdaaGreat
open Go.RowKit
set_option linter.unusedVariables false
section
variable {w w':World}{gD gS gM n:Nat}{S:Nat→List Nat}{L:Nat→Option (List Nat)}{t:Tr}
end
end Go.Proofs.YtaonpmclkafjdaaGreat
namespace Go.Proofs.YtaonpmclkafjdaaGreat
open Go.RowKit
end Go.Proofs.YtaonpmclkafjdaaGreat
namespace Go.Proofs.YtaonpmclkafjdaaGreat
open Go.RowKit
set_option linter.unusedVariables false
end Go.Proofs.YtaonpmclkafjdaaGreat
namespace Go.Proofs.YtaonpmclkafjdaaGreat
open Go.RowKit
set_option linter.unusedVariables false
section
variable {g:Nat}{nb:List Nat}{rs xs bs:List (List Nat)}{S:Nat→List Nat}{L:Nat→Option (List Nat)}
end
end Go.Proofs.YtaonpmclkafjdaaGreat
