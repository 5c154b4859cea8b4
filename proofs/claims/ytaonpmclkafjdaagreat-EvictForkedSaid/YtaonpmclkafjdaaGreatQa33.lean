/-
  The library's DeleteFunc over pages, with the closure of Keys.
  The library's DeleteFunc over pages: the walk.
  Conditions: those that each line bears.
-/
import Derived.Test.YtaonpmclkafjdaaGreatQa32
import Derived.Lib.SliceRun
set_option linter.unusedSimpArgs false
set_option linter.unusedSectionVars false
set_option linter.unusedVariables false
namespace Go.Proofs.YtaonpmclkafjdaaGreat
open Go.RowKit
set_option linter.unusedVariables false
def CellsK (cur:Array Value)(o:Nat)(l:List Pl):Prop:=∀ j,j < l.length→cur[(o+j) * 2]?=some (.int .i64 (l.getD j pl0).c)∧cur[(o+j) * 2+1]?=some (.int .i64 (l.getD j pl0).g)
def keepF (file:Int)(l:List Pl):List Pl:=l.filter fun x=>!otherF file x
structure DelAt (g:Nat)(l:List Pl)(file:Int)(cap bx:Nat)(B:Nat)(w:World)(i j:Nat)(W:World):Prop where
  len:(keepF file (l.take j)).length=i
  lt:i < j
  bel:Below B w W
  row:∃ cur,Blk W g 85 cur∧cur.size=cap * 2∧CellsK cur 0 (keepF file (l.take j))∧CellsK cur j (l.drop j)
  box:W.cell? ⟨bx,0,none⟩=some (.int .i64 file)
  boxlt:bx < W.heap.size
end Go.Proofs.YtaonpmclkafjdaaGreat
namespace Go.Proofs.YtaonpmclkafjdaaGreat
open Go.RowKit
set_option linter.unusedVariables false
section
variable {g cap bx B i j:Nat}{l:List Pl}{file:Int}{w W W1 W2:World}
end
end Go.Proofs.YtaonpmclkafjdaaGreat
