/-
  A slice of structs that came in, read field by field. Nothing of the program is named here.
  Conditions: every field is one cell.
-/
import Derived.Test.YtgjedofljojioaaPlain
import Derived.Deep.Slices
import Derived.Deep.Fields
import Derived.ChangeSame
namespace Go.Proofs.Ytgjedofljojioaa
open Go.RowKit Go.ChangeShapes Go.WideShapes Go.Deep

section
variable {H : Type} {enc : TypeId × Value → H} {P : Program} {w : World} {base : Nat} {spare : Nat → Bool} {held : Bool}
/-- What is known of such a slice: it is nil; or field j of element i lies at its place, and reads as its type's values do. -/
def StructRow (enc : TypeId × Value → H) (P : Program) (w : World) (base : Nat) (spare : Nat → Bool) (held : Bool) (fs : Array Field) (A : Option Addr) (l c : Nat) : Prop :=
  (A = none ∧ l = 0 ∧ c = 0) ∨ ∃ b off, A = some ⟨b, off, none⟩ ∧ l ≤ c ∧ c ≤ maxLen ∧ ∀ i, i < l → b < w.heap.size ∧ ∀ (j : Nat) (f : Field), fs[j]? = some f →
    ∃ (v : Value) (y : DataW H × List MemPlace) (n : Nat), w.cell? ⟨b, off + (i * fs.size + j), none⟩ = some v ∧ DataW.trod enc P w base spare held n f.type [v] = some y
theorem StructRow.of_trod {t e : TypeId} {fs : Array Field} {fuel : Nat} {A : Option Addr} {l c : Nat} {x : DataW H × List MemPlace} (ht : P.underlying t = some (.slice e)) (he : P.underlying e = some (.struct fs)) (h1 : oneCellFields P fs = true)
    (hC : P.cellsOf e = fs.size) (h0 : 0 < fs.size) (h : DataW.trod enc P w base spare held fuel t [.slice A l c] = some x) (hsp : A ≠ none → l ≠ 0 ∨ ∃ b off, A = some ⟨b, off, none⟩) :
    StructRow enc P w base spare held fs A l c := by
  rcases open_slice ht h with ⟨hcs, _⟩ | ⟨a, len, cap, m, n, D, Pl, hcs, _, hl, hm, hmm, _, hrow⟩
  · simp only [List.cons.injEq, Value.slice.injEq, and_true] at hcs
    exact .inl hcs
  · simp only [List.cons.injEq, Value.slice.injEq, and_true] at hcs
    obtain ⟨rfl, rfl, rfl⟩ := hcs
    have hlm : l ≤ m := by rw [hmm]; split <;> omega
    rw [hC] at hrow
    have hcell : ∀ i, i < m → ∀ (j : Nat) (f : Field), fs[j]? = some f → ∃ (v : Value) (y : DataW H × List MemPlace) (n : Nat), w.cell? (a.add (i * fs.size + j)) = some v ∧ DataW.trod enc P w base spare held n f.type [v] = some y := by
      intro i hi j f hj
      obtain ⟨row, hr, htr⟩ := hrow i hi
      obtain ⟨_, hlen, hat⟩ := World.cells?_some hr
      obtain ⟨ys, k, _, _, _, hyl, hfield⟩ := DataW.trod_struct he htr
      have hjs : j < fs.size := (Array.getElem?_eq_some_iff.1 hj).1
      obtain ⟨o1, o2⟩ := hone_of h1 j f hj
      have hf := hfield j f hj
      rw [o1, o2, List.drop_eq_getElem_cons (by omega), List.take_succ_cons, List.take_zero] at hf
      rw [List.getElem?_eq_getElem (show j < ys.length by omega)] at hf
      refine ⟨row[j], ys[j], k, ?_, hf⟩
      rw [← add_add, hat j hjs]
      exact List.getElem?_eq_getElem _
    have hspot : a.spot = none := by
      rcases hsp (by simp) with hl0 | ⟨b, off, hb⟩
      · have hf0 : fs[0]? = some fs[0] := Array.getElem?_eq_getElem h0
        obtain ⟨v, y, k, hv, _⟩ := hcell 0 (by omega) 0 _ hf0
        simpa [Addr.add] using World.cell?_spot hv
      · simp only [Option.some.injEq] at hb
        rw [hb]
    obtain ⟨b, off, spot⟩ := a
    subst hspot
    refine .inr ⟨b, off, rfl, hl, hm, fun i hi => ⟨?_, fun j f hj => ?_⟩⟩
    · have hf0 : fs[0]? = some fs[0] := Array.getElem?_eq_getElem h0
      obtain ⟨v, y, k, hv, _⟩ := hcell i (by omega) 0 _ hf0
      have := World.block_lt_of_cell? w _ hv
      have e2 : ∀ q, (Addr.mk b off none).add q = ⟨b, off + q, none⟩ := fun q => by unfold Addr.add; split <;> simp_all
      rw [e2] at this
      exact this
    · obtain ⟨v, y, k, hv, hy⟩ := hcell i (by omega) j f hj
      have e2 : ∀ q, (Addr.mk b off none).add q = ⟨b, off + q, none⟩ := fun q => by unfold Addr.add; split <;> simp_all
      rw [e2] at hv
      exact ⟨v, y, k, hv, hy⟩
end
end Go.Proofs.Ytgjedofljojioaa
