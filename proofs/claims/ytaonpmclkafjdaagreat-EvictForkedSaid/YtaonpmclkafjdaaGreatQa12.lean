/-
  Memory and a pool side by side, with so many sections on line; how many frames are free.
  Conditions: those that each line bears.
-/
import Derived.Test.YtaonpmclkafjdaaGreatQa10
import Derived.Test.YtaonpmclkafjdaaGreatQa04
import Derived.Test.YtaonpmclkafjdaaGreatQa11
import Derived.Test.YtaonpmclkafjdaaGreatQa00
import Derived.Deep.LoopGhost
set_option linter.unusedSimpArgs false
set_option linter.unusedSectionVars false
set_option linter.unusedVariables false
namespace Go.Proofs.YtaonpmclkafjdaaGreat
open Go.RowKit
set_option linter.unusedVariables false
attribute [local irreducible] ps0 badU spanU
structure OnN (p:PS)(n:Nat):Prop where
  ok:PsOk p
  u:∀ f,f < 1024→p.u.getD f 0=if f < 32 * n then 1 else 0
  z:∀ s,s < 32→p.z.getD s 0=if s < n then 2 else 0
  i:∀ s,s < 32→p.i.getD s false=false
def PartsT (w0 w:World)(gR gF gP:Nat)(F:Nat→List Nat)(bad:Nat→Bool)(p:PS):Prop :=
  ∃ K,Mem w gR gF 1024 F bad∧PoolMem w gP K p∧¬ K gR∧¬ K gF∧(∀ k,K k→w0.heap.size≤k)∧w0.heap.size≤gR∧w0.heap.size≤gF∧Below w0.heap.size w0 w
section
variable {w0 w w':World}{gR gF gP:Nat}{F:Nat→List Nat}{bad:Nat→Bool}{p:PS}
end
end Go.Proofs.YtaonpmclkafjdaaGreat
