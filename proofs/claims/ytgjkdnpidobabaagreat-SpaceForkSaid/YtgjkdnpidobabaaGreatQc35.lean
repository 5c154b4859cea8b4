/-
  The slots whose sets are as a function wants, rising; Take, Used, Slots over the landed code.
  Conditions: those that each line bears.
-/
import Derived.Test.YtgjkdnpidobabaaGreatQc21
import Derived.Maps.RangeWalk
import Derived.LoopN
import Derived.Deep.LoopGhost
set_option linter.unusedSimpArgs false
set_option linter.unusedSectionVars false
set_option linter.unusedVariables false
namespace Go.Proofs.YtgjkdnpidobabaaGreat
open Go.RowKit Go.Maps
set_option linter.unusedVariables false
def PredW (g : Nat) (lb : Array Value) (f : Nat → Bool) (mo : Nat → Option Nat) (B : Nat) (w : World) : Prop :=
  ∀ W n, n < 32 → Below B w W → w.heap.size ≤ W.heap.size → Calls Tryz.prog g (#[.map (mo n)] ++ lb) W fun e w' => e = .returned (.bool (f n)) ∧ Below W.heap.size W w'
def filtI (f : Nat → Bool) (n : Nat) : List Int := ((List.range n).filter f).map (fun (k : Nat) => (k : Int))
end Go.Proofs.YtgjkdnpidobabaaGreat

