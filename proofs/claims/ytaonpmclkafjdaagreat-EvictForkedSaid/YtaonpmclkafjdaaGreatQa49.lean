/-
  The statements' own record of files' bytes: a block of bytes behind two lists.
  Conditions: those that each line bears.
-/
import Derived.Test.YtaonpmclkafjdaaGreatQa04
import Derived.Test.YtaonpmclkafjdaaGreatQa00
import Derived.Test.YtaonpmclkafjdaaGreatProg
import Derived.KernelRfl
set_option linter.unusedSimpArgs false
set_option linter.unusedSectionVars false
set_option linter.unusedVariables false
namespace Go.Proofs.YtaonpmclkafjdaaGreat
open Go.RowKit
set_option linter.unusedVariables false
def WldAt (w:World)(g:Nat)(F:Nat→Nat):Prop:=∃ cur,Blk w g 145 cur∧cur.size=8194∧∀ j,j < 8192→cur[j+2]?=some (bv (F j))∧F j < 256
section
variable {w w':World}{g:Nat}{F:Nat→Nat}
def rowF (F:Nat→Nat)(a:Nat):List Nat:=(List.range 64).map fun j=>F (a+j)
end
def isZ8':Value→Bool
  | .int .u8 n=>n == 0
  | _=>false
end Go.Proofs.YtaonpmclkafjdaaGreat
