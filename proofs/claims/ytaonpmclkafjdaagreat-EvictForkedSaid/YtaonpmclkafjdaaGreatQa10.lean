/-
  PoolNone, and the short play that every statement of the pool ends with.
  PoolTwice answers true for any numbers.
  A pool that a statement holds, of which a thing is known: its calls; PoolTwice's walk.
  Conditions: those that each line bears.
-/
import Derived.Test.YtaonpmclkafjdaaGreatQa09
import Derived.Test.YtaonpmclkafjdaaGreatQa02
import Derived.Deep.LoopGhost
import Derived.BigQuiet
set_option linter.unusedSimpArgs false
set_option linter.unusedSectionVars false
set_option linter.unusedVariables false
namespace Go.Proofs.YtaonpmclkafjdaaGreat
open Go.RowKit
set_option linter.unusedVariables false
def P1:PS:=⟨badU 1 (spanU freshG ps0.u (32 * 1) (32 * 1+32)) [32],ps0.z.set 1 2,ps0.i.set 1 false⟩
def P2:PS:=⟨spanU (fun _=>3) P1.u 33 34,P1.z,P1.i⟩
end Go.Proofs.YtaonpmclkafjdaaGreat
namespace Go.Proofs.YtaonpmclkafjdaaGreat
open Go.RowKit
set_option linter.unusedVariables false
attribute [local irreducible] ps0 badU spanU
structure Is0 (p:PS):Prop where
  ul:p.u.length=1024
  zl:p.z.length=32
  il:p.i.length=32
  u:∀ f,f < 1024→p.u.getD f 0=0
  z:∀ s,p.z.getD s 0=0
structure IsS (p:PS)(s z a i:Nat):Prop where
  ul:p.u.length=1024
  zl:p.z.length=32
  il:p.i.length=32
  u:∀ f,f < 1024→p.u.getD f 0=if 32 * s+a≤f∧f < 32 * s+i then 2 else if 32 * s≤f∧f < 32 * s+32 then 1 else 0
  z:∀ t,p.z.getD t 0=if t=s then z else 0
  i:p.i.getD s false=false
end Go.Proofs.YtaonpmclkafjdaaGreat
namespace Go.Proofs.YtaonpmclkafjdaaGreat
open Go.RowKit
set_option linter.unusedVariables false
attribute [local irreducible] ps0 badU spanU
def St (w0 w:World)(gS:Nat)(Q:PS→Prop):Prop:=∃ K p,PoolMem w gS K p∧Q p∧(∀ k,K k→w0.heap.size≤k)∧Below w0.heap.size w0 w
section
variable {w0 w w':World}{gS:Nat}{Q R:PS→Prop}
end
end Go.Proofs.YtaonpmclkafjdaaGreat
