/-
  The contract of the document's Offline, and of Used.
  Conditions: none beside RefP's.
-/
import Derived.Test.YtegoookllckhiaaRefP
namespace Go.Proofs.Ytegoookllckhiaa
open Go.RowKit
set_option linter.unusedVariables false

theorem busyU_yes {u : List Nat} {s f : Nat} (h1 : 32 * s ≤ f) (h2 : f < 32 * s + 32) (n1 : u.getD f 0 ≠ 1) (n6 : u.getD f 0 ≠ 6) : busyU u s = true := by
  cases hb : busyU u s with
  | true => rfl
  | false =>
    have := busyU_no.1 hb (f - 32 * s) (by omega)
    rw [show 32 * s + (f - 32 * s) = f by omega] at this
    omega
theorem busyU_of {u : List Nat} {s : Nat} (h : ∀ f, 32 * s ≤ f → f < 32 * s + 32 → u.getD f 0 = 1 ∨ u.getD f 0 = 6) : busyU u s = false :=
  busyU_no.2 fun j hj => h _ (by omega) (by omega)
end Go.Proofs.Ytegoookllckhiaa
