/-
  The library's sort of pages.
  The pages of a cache, sorted: Collect, SortedFunc, the library's Keys.
  The places of a set, sorted: Collect, SortedFunc, the set's own sorted; Of.
  The places of a set, sorted, as the program asks for them: SortedFunc over Keys; Of.
  Conditions: those that each line bears.
-/
import Derived.Test.YtgjkdnpidobabaaGreatQc27
import Derived.Shelf.SlSortCmp.NoneTotal
set_option linter.unusedSimpArgs false
set_option linter.unusedSectionVars false
set_option linter.unusedVariables false
namespace Go.Proofs.YtgjkdnpidobabaaGreat
open Go.RowKit Go.Shelf Go.Lib Go.Sort
set_option linter.unusedVariables false
end Go.Proofs.YtgjkdnpidobabaaGreat

namespace Go.Proofs.YtgjkdnpidobabaaGreat
open Go.RowKit Go.Shelf Go.Lib Go.Sort
end Go.Proofs.YtgjkdnpidobabaaGreat

namespace Go.Proofs.YtgjkdnpidobabaaGreat
open Go.RowKit Go.Shelf Go.Lib Go.Sort
set_option linter.unusedVariables false
end Go.Proofs.YtgjkdnpidobabaaGreat

namespace Go.Proofs.YtgjkdnpidobabaaGreat
open Go.RowKit Go.Shelf Go.Lib Go.Sort
set_option linter.unusedVariables false
end Go.Proofs.YtgjkdnpidobabaaGreat

