/-
  What Keys of a cache lets go of: its second closure, the library's IndexFunc and DeleteFunc over pages.
  Conditions: those that each line bears.
-/
import Derived.Test.YtaonpmclkafjdaaGreatQa31
import Derived.Test.YtaonpmclkafjdaaGreatQa27
set_option linter.unusedSimpArgs false
set_option linter.unusedSectionVars false
set_option linter.unusedVariables false
namespace Go.Proofs.YtaonpmclkafjdaaGreat
open Go.RowKit
set_option linter.unusedVariables false
def otherF (file:Int)(k:Pl):Bool:=decide (0≤file) && decide (k.c≠file)
def RowAtK (W:World)(g:Nat)(i:Nat)(l:List Pl):Prop:=∀ j,j < l.length→W.cell? ⟨g,(i+j) * 2,none⟩=some (.int .i64 (l.getD j pl0).c)∧W.cell? ⟨g,(i+j) * 2+1,none⟩=some (.int .i64 (l.getD j pl0).g)
end Go.Proofs.YtaonpmclkafjdaaGreat
