/-
  The contract of the document's own Alloc: the greater orders, and all of them.
  Conditions: none beside RefP's.
-/
import Derived.Test.YtegoookllckhiaaRefA
namespace Go.Proofs.Ytegoookllckhiaa
open Go.RowKit
end Go.Proofs.Ytegoookllckhiaa
