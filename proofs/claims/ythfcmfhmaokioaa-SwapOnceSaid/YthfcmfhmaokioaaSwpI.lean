/-
  The contracts of swap's calls, proved over the landed code, as the statements' walks ask for them.
  Conditions: those that each line bears.
-/
import Derived.Test.YthfcmfhmaokioaaSwC
import Derived.Test.YthfcmfhmaokioaaSwF
namespace Go.Proofs.Ythfcmfhmaokioaa
open Go.RowKit
set_option linter.unusedVariables false

end Go.Proofs.Ythfcmfhmaokioaa
