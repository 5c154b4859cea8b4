/-
  Numbers as keys of a map, whatever it holds.
  Conditions: none beside those that each line bears.
-/
import Derived.Test.YthfcmfhmaokioaaMapK
import Derived.Test.YthfcmfhmaokioaaProg
import Derived.DeepKeys4
namespace Go.Proofs.Ythfcmfhmaokioaa
open Go.RowKit
open Go.Maps (Keyed)
set_option linter.unusedVariables false

/-- A number that an int holds. -/
abbrev W64 (z : Int) : Prop := (Lit.int .i64 z).wf = true
def EI : KeyK Try.prog 3 Int where
  val := .int .i64
  ok := W64
  lit := .int .i64
  K := Maps.int_keyed Try.underlying3
  mkOf := fun x hx => Maps.keyOf_int_mk Try.underlying3 hx
  inv := fun v l h => by
    obtain ⟨x, rfl, rfl, hx⟩ := Maps.keyOf_i64 Try.underlying3 h
    exact ⟨x, hx, rfl, rfl⟩
  mkInj := fun x y h => by injection h
theorem laidOut_ : laidOutB Try.prog = true := by kernel_rfl
theorem intRow : (3 : TypeId) < Try.prog.types.size := of_decide_eq_true (by kernel_rfl)
theorem intCells : Try.prog.cellsOf 3 = 1 := by kernel_rfl
theorem typesSize : ∃ n, Try.prog.types.size = n + 1 := ⟨Try.prog.types.size - 1, (Nat.succ_pred_eq_of_pos (Nat.lt_of_le_of_lt (Nat.zero_le _) intRow)).symm⟩
theorem keyLits_int (d : Nat) (v : Value) : Try.prog.keyLits (d + 1) 3 [v] = (match v with | .int q n => if q = .i64 ∧ (Lit.int .i64 n).wf = true then some [.int .i64 n] else none | _ => none) := by
  cases v <;> simp [Program.keyLits, Try.underlying3]
theorem keyLits_int_inv {d : Nat} {v : Value} {a : List Lit} (h : Try.prog.keyLits (d + 1) 3 [v] = some a) : ∃ n, v = .int .i64 n ∧ W64 n ∧ a = [.int .i64 n] := by
  rw [keyLits_int] at h
  split at h
  · split at h
    · rename_i hq
      obtain ⟨rfl, hc⟩ := hq
      injection h with h
      exact ⟨_, rfl, hc, h.symm⟩
    · cases h
  · cases h
end Go.Proofs.Ythfcmfhmaokioaa
