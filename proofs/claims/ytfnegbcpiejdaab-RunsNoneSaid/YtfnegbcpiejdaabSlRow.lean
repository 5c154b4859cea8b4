/-
  A slice of slices of bytes that came in, as bytes that lie in memory.
  Conditions: none beside those that each line bears.
-/
import Derived.Test.YtfnegbcpiejdaabProg
import Derived.Test.YtfnegbcpiejdaabBas
import Derived.OpenShut
import Derived.Deep.Slices
import Derived.Deep.Fields
import Derived.ChangeSame
import Derived.ProofKit
namespace Go.Proofs.Ytfnegbcpiejdaab
open Go.ChangeShapes Go.WideShapes Go.ChangeAt Go.RowKit Go.Deep
set_option linter.unusedVariables false

theorem Try.cellsB : Try.prog.cellsOf 35 = 1 := by kernel_rfl
/-- A slice of bytes. -/
theorem bytes_of {H : Type} {enc : TypeId × Value → H} {w : World} {k base : Nat} {y : DataW H × List MemPlace} {v : Value} {hd : Bool} (ht : DataW.trod enc Try.prog w base (fun _ => true) hd k 35 [v] = some y) : ∃ xs, Bts w w.heap.size v xs := by
  rcases open_ints Try.underlying35 Try.underlying5 (by kernel_rfl) ht with ⟨hcs, _⟩ | ⟨x, l, c, zs, hcs, _, hl, hm, hz, _, hcell, hwz⟩
  · simp only [List.cons.injEq, and_true] at hcs
    subst hcs
    exact ⟨[], Bts.nil_ _ _⟩
  · simp only [List.cons.injEq, and_true] at hcs
    subst hcs
    obtain ⟨xs, _, h⟩ := Bts.of_row (w := w) (a := some x) (len := l) (cap := c) (zs := zs) (.inr ⟨x, rfl, hl, hm, by simpa using hz, hcell, hwz⟩)
    exact ⟨xs, h⟩
/-- The slices that came in. -/
theorem pts_of {H : Type} {enc : TypeId × Value → H} {w : World} {fuel l c base : Nat} {A : Option Addr} {x : DataW H × List MemPlace} {hd : Bool} (h : DataW.trod enc Try.prog w base (fun _ => true) hd fuel 68 [.slice A l c] = some x) :
    ∃ xss, Pts w (.slice A l c) xss ∧ xss.length = l ∧ l ≤ maxLen := by
  rcases open_slice Try.underlying68 h with ⟨hcs, _⟩ | ⟨a, len, cap, m, n, D, Pl, hcs, _, hl, hm, hmm, _, hrow⟩
  · simp only [List.cons.injEq, Value.slice.injEq, and_true] at hcs
    obtain ⟨rfl, rfl, rfl⟩ := hcs
    exact ⟨[], ⟨none, 0, 0, rfl, rfl, Nat.le_refl _, by simp [maxLen], fun h => absurd h (by omega)⟩, rfl, by simp [maxLen]⟩
  · simp only [List.cons.injEq, Value.slice.injEq, and_true] at hcs
    obtain ⟨rfl, rfl, rfl⟩ := hcs
    have hlm : l ≤ m := by rw [hmm]; split <;> omega
    rw [Try.cellsB] at hrow
    have hcell : ∀ i, i < m → ∃ (xs : List Nat) (v : Value), w.cell? (a.add i) = some v ∧ Bts w w.heap.size v xs := by
      intro i hi
      obtain ⟨row, hr, htr⟩ := hrow i hi
      obtain ⟨_, hlen, hat⟩ := World.cells?_some hr
      have hl1 : row.length = 1 := hlen
      obtain ⟨v, rfl⟩ : ∃ v, row = [v] := by
        match row, hl1 with
        | [v], _ => exact ⟨v, rfl⟩
      obtain ⟨xs, hxs⟩ := bytes_of htr
      refine ⟨xs, v, ?_, hxs⟩
      have h1 := hat 0 (by omega)
      rw [add_add, Nat.mul_one, Nat.add_zero] at h1
      rw [h1]
      rfl
    by_cases h0 : l = 0
    · subst h0
      exact ⟨[], ⟨some a, 0, c, rfl, rfl, hl, hm, fun h => absurd h (by omega)⟩, rfl, by simp [maxLen]⟩
    · have hspot : a.spot = none := by
        obtain ⟨xs, v, hv, _⟩ := hcell 0 (by omega)
        simpa [Addr.add] using World.cell?_spot hv
      obtain ⟨b, off, spot⟩ := a
      subst hspot
      have e2 : ∀ q, (Addr.mk b off none).add q = ⟨b, off + q, none⟩ := fun q => by unfold Addr.add; split <;> simp_all
      obtain ⟨f, hf⟩ : ∃ f : Nat → List Nat, ∀ i, i < m → ∃ v, w.cell? (Addr.add ⟨b, off, none⟩ i) = some v ∧ Bts w w.heap.size v (f i) :=
        ⟨fun i => if hi : i < m then Classical.choose (hcell i hi) else [], fun i hi => by
          simp only [hi, dif_pos]
          exact Classical.choose_spec (hcell i hi)⟩
      refine ⟨(List.range l).map f, ⟨_, l, c, rfl, by simp, hl, hm, fun _ => ⟨b, off, rfl, fun j hj => ?_⟩⟩, by simp, Nat.le_trans hl hm⟩
      obtain ⟨v, h1, h2⟩ := hf j (by omega)
      rw [e2] at h1
      exact ⟨v, h1, by simpa [hj] using h2⟩
end Go.Proofs.Ytfnegbcpiejdaab
