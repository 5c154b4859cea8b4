/-
  What several layers stand on, with what a crash leaves: a disk of which nothing is loose has no loose sectors.
  Conditions: none.
-/
import Derived.Test.YtckabekimdcdcaaGen
import Derived.Test.YtckabekimdcdcaaDiskH
namespace Go.Proofs.Ytckabekimdcdcaa
open Go.RowKit
theorem keysL_none (n : Nat) : keysL n (fun _ => none) = [] := by
  refine List.eq_nil_iff_forall_not_mem.2 fun j hj => ?_
  have := (keysL_mem hj).2
  simp at this
end Go.Proofs.Ytckabekimdcdcaa
