/-
  Places as keys of a map.
  Conditions: none beside those that each line bears.
-/
import Derived.Test.YthfcmfhmaokioaaIntK
import Derived.Test.YthfcmfhmaokioaaBkM
import Derived.Test.YthfcmfhmaokioaaProg
import Derived.DeepKeys4
namespace Go.Proofs.Ythfcmfhmaokioaa
open Go.RowKit
open Go.Maps (Keyed)
set_option linter.unusedVariables false

abbrev WPl (p : Pl) : Prop := W64 p.c ∧ W64 p.g
theorem placeRow : (29 : TypeId) < Try.prog.types.size := of_decide_eq_true (by kernel_rfl)
theorem placeWide : (match Try.prog.underlying 29 with | some (.array _ _) | some (.struct _) => true | _ => false) = true := by kernel_rfl
theorem placeKeyed : Keyed Try.prog 29 := Maps.Keyed.of_law (deep_law_laid laidOut_ (m := 2) (by omega) placeRow (by kernel_rfl) placeWide)
theorem placeKeyType : Try.prog.keyType 29 = true := by kernel_rfl
theorem placeCells : Try.prog.cellsOf 29 = 2 := by kernel_rfl
def litP (p : Pl) : Lit := .string (keyBytes [.int .i64 p.c, .int .i64 p.g])
theorem keyLits_place (u v : Value) : Try.prog.keyLits (Try.prog.types.size + 1) 29 [u, v] = (do let a ← Try.prog.keyLits Try.prog.types.size 3 [u]; let b ← Try.prog.keyLits Try.prog.types.size 3 [v]; pure (a ++ b)) := by
  have hc := placeCells
  have hi := intCells
  generalize Try.prog.types.size = n
  conv => lhs; unfold Program.keyLits
  simp [Try.underlying29, hc, hi]
  cases Try.prog.keyLits n 3 [u] with
  | none => rfl
  | some a =>
    cases Try.prog.keyLits n 3 [v] with
    | none => rfl
    | some c => simp
def EP : KeyK Try.prog 29 Pl where
  val := fun p => .agg #[.int .i64 p.c, .int .i64 p.g]
  ok := WPl
  lit := litP
  K := placeKeyed
  mkOf := fun p hp => by
    obtain ⟨n, hn⟩ := typesSize
    have h1 := keyLits_place (.int .i64 p.c) (.int .i64 p.g)
    rw [hn] at h1
    rw [keyLits_int, keyLits_int] at h1
    simp only [hp.1, hp.2, and_self, if_true] at h1
    unfold keyOf litP
    simp [Try.underlying29, placeKeyType, Value.formed, placeCells, Value.cells, hn, h1]
  inv := fun v l h => by
    obtain ⟨n, hn⟩ := typesSize
    unfold keyOf at h
    simp only [Try.underlying29, placeKeyType, Bool.true_and] at h
    split at h
    · rename_i hf
      cases v <;> simp [Value.formed, Try.underlying29, placeCells] at hf
      rename_i xs
      obtain ⟨xs⟩ := xs
      match xs, hf with
      | [u, v], _ =>
        obtain ⟨ls, h1, rfl⟩ := Option.map_eq_some_iff.1 h
        change Try.prog.keyLits (Try.prog.types.size + 1) 29 [u, v] = some ls at h1
        rw [keyLits_place, hn] at h1
        obtain ⟨a, ha, h1⟩ := Option.bind_eq_some_iff.1 h1
        obtain ⟨b, hb, h1⟩ := Option.bind_eq_some_iff.1 h1
        obtain ⟨c, rfl, hc, rfl⟩ := keyLits_int_inv ha
        obtain ⟨g, rfl, hg, rfl⟩ := keyLits_int_inv hb
        injection h1 with h1
        subst h1
        exact ⟨⟨c, g⟩, ⟨hc, hg⟩, rfl, rfl⟩
    · cases h
  mkInj := fun x y h => by
    injection h with h
    have h' := congrArg Array.toList h
    simp only [List.cons.injEq, Value.int.injEq, true_and, and_true] at h'
    cases x
    cases y
    simp only [Pl.mk.injEq]
    exact h'
end Go.Proofs.Ythfcmfhmaokioaa
