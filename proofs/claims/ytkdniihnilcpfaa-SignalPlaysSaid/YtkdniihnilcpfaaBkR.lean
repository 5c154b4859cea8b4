/-
  The document's own Places, Put and Out.
  Conditions: the places are read in memory.
-/
import Derived.Test.YtkdniihnilcpfaaBkM
import Derived.Test.YtkdniihnilcpfaaInts
import Derived.BigQuiet
import Derived.Deep.QuietTactic
import Derived.Deep.RegionHeld3
import Derived.Deep.LoopGhost
namespace Go.Proofs.Ytkdniihnilcpfaa
open Go.RowKit
set_option linter.unusedVariables false

theorem plsL_of_getD {xs ys : List Pl} (hl : xs.length = ys.length) (h : ∀ j, j < xs.length → xs.getD j pl0 = ys.getD j pl0) : xs = ys := by
  apply List.ext_getElem hl
  intro j h1 h2
  have := h j h1
  simpa [h1, h2] using this
/-- An address is none, or that of a cell. -/
def Shp (v : Value) : Prop := ∃ A n c, v = .slice A n c ∧ (A = none ∨ ∃ b o, A = some ⟨b, o, none⟩)
theorem Shp.own {w : World} {base size n : Nat} {e : TypeId} {v : Value} {xs : List Value} (h : w.ownsRow base e size v n xs) : Shp v := by
  rcases h.2 with ⟨rfl, _⟩ | ⟨g, cap, cur, rfl, _⟩
  · exact ⟨_, _, _, rfl, .inl rfl⟩
  · exact ⟨_, _, _, rfl, .inr ⟨_, _, rfl⟩⟩
end Go.Proofs.Ytkdniihnilcpfaa
