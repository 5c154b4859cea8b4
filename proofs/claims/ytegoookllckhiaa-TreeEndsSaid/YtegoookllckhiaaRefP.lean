/-
  The document's own pool in memory, and the contracts of its Online and Offline.
  Conditions: the frames are read in memory that the pool is no part of.
-/
import Derived.Test.YtegoookllckhiaaPoo
import Derived.Test.YtegoookllckhiaaVals
import Derived.Test.YtegoookllckhiaaProg
import Derived.WalkKit
import Derived.WalkSpells
import Derived.Lib.Hide
import Derived.Deep.LoopGhost
import Derived.Deep.RegionHeld3
import Derived.StillTailTactics
namespace Go.Proofs.Ytegoookllckhiaa
open Go.RowKit
set_option linter.unusedVariables false

def iv (n : Nat) : Value := .int .i64 (n : Int)
def refL (p : PS) : List Value := p.u.map iv ++ (p.z.map iv ++ p.i.map Value.bool)
section
variable {w w' : World} {g : Nat} {p : PS}
end
end Go.Proofs.Ytegoookllckhiaa
