/-
  A slice of slices of bytes that came in, as bytes that lie in memory.
  Conditions: none beside those that each line bears.
-/
import Derived.Test.YthfcmfhmaokioaaProg
import Derived.Test.YthfcmfhmaokioaaBas
import Derived.OpenShut
import Derived.Deep.Slices
import Derived.Deep.Fields
import Derived.ChangeSame
import Derived.ProofKit
namespace Go.Proofs.Ythfcmfhmaokioaa
open Go.ChangeShapes Go.WideShapes Go.ChangeAt Go.RowKit Go.Deep
end Go.Proofs.Ythfcmfhmaokioaa
