/-
  A slice of slices of bytes that came in, as bytes that lie in memory.
  Conditions: none beside those that each line bears.
-/
import Derived.Test.YtkdniihnilcpfaaProg
import Derived.Test.YtkdniihnilcpfaaBas
import Derived.OpenShut
import Derived.Deep.Slices
import Derived.Deep.Fields
import Derived.ChangeSame
import Derived.ProofKit
namespace Go.Proofs.Ytkdniihnilcpfaa
open Go.ChangeShapes Go.WideShapes Go.ChangeAt Go.RowKit Go.Deep
end Go.Proofs.Ytkdniihnilcpfaa
