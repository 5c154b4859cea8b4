/-
  The contracts of the document's own Has and Tables.
  Conditions: those that each line bears.
-/
import Derived.Test.YtaonpmclkafjdaaGreatQa00
import Derived.Test.YtaonpmclkafjdaaGreatProg
import Derived.Deep.LoopGhost
import Derived.OwnWalk
import Derived.BigQuiet
set_option linter.unusedSimpArgs false
set_option linter.unusedSectionVars false
set_option linter.unusedVariables false
namespace Go.Proofs.YtaonpmclkafjdaaGreat
open Go.RowKit
def asI (l:List Nat):List Int:=l.map (fun (f:Nat)=>(f:Int))
def ownR (w:World)(B:Nat)(v:Value)(l:List Int):Prop:=w.ownsRow B 3 1 v l.length (l.map (fun z=>Value.int .i64 z))
def sumT (ps:List Nat):Nat→Nat
  | 0=>1
  | 1=>1+(distL (ps.map (· / 512))).length
  | 2=>1+(distL (ps.map (· / 512))).length+(distL (ps.map (· / 64))).length
  | _=>tablesN ps
def sizeT:Nat→Nat
  | 0=>512
  | 1=>64
  | 2=>8
  | _=>1
end Go.Proofs.YtaonpmclkafjdaaGreat
