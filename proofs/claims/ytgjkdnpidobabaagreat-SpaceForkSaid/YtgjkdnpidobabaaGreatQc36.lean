/-
  Take, Used, Slots over the landed code.
  Conditions: those that each line bears.
-/
import Derived.Test.YtgjkdnpidobabaaGreatQc35
import Derived.Shelf.Abstract
import Derived.RangeFuncSeq
set_option linter.unusedSimpArgs false
set_option linter.unusedSectionVars false
set_option linter.unusedVariables false
namespace Go.Proofs.YtgjkdnpidobabaaGreat
open Go.RowKit Go.Maps Go.Shelf
set_option linter.unusedVariables false
def encQ (p : Pl) : Value := .agg #[.int .i64 p.c, .int .i64 p.g]
section
variable (gS : Nat) (K : Nat → Prop) (s : SS) (w : World)
end
end Go.Proofs.YtgjkdnpidobabaaGreat

