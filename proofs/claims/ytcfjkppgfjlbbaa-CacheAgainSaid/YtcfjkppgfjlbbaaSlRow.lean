/-
  A slice of slices of bytes that came in, as bytes that lie in memory.
  Conditions: none beside those that each line bears.
-/
import Derived.Test.YtcfjkppgfjlbbaaProg
import Derived.Test.YtcfjkppgfjlbbaaBas
import Derived.OpenShut
import Derived.Deep.Slices
import Derived.Deep.Fields
import Derived.ChangeSame
import Derived.ProofKit
namespace Go.Proofs.Ytcfjkppgfjlbbaa
open Go.ChangeShapes Go.WideShapes Go.ChangeAt Go.RowKit Go.Deep
end Go.Proofs.Ytcfjkppgfjlbbaa
