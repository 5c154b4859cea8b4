/-
  The acts of layer 7's statements, as they lie in memory; a slice of integers that came in.
  Conditions: none beside those that each line bears.
-/
import Derived.Test.YtfnegbcpiejdaabVals
import Derived.Test.YtfnegbcpiejdaabSlRow
import Derived.Test.YtfnegbcpiejdaabIntsRow
namespace Go.Proofs.Ytfnegbcpiejdaab
open Go.ChangeShapes Go.WideShapes Go.ChangeAt Go.RowKit Go.Deep
set_option linter.unusedVariables false

/-- One act: the frames, whether it is a state that is set, the section and the state. -/
structure Act7 where
  v : Value
  fs : List Int
  set : Bool
  sect : Int
  st : Int
def Act7At (w : World) (b o : Nat) (x : Act7) : Prop :=
  b < w.heap.size ∧ w.cell? ⟨b, o, none⟩ = some x.v ∧ w.cell? ⟨b, o + 1, none⟩ = some (.bool x.set) ∧ w.cell? ⟨b, o + 2, none⟩ = some (.int .i64 x.sect) ∧ w.cell? ⟨b, o + 3, none⟩ = some (.int .i64 x.st) ∧ Its w w.heap.size x.v x.fs
def Acts7 (w : World) (v : Value) (ps : List Act7) : Prop :=
  ∃ A n c, v = .slice A n c ∧ ps.length = n ∧ n ≤ maxLen ∧ (0 < n → ∃ b off, A = some ⟨b, off, none⟩ ∧ ∀ j x, ps[j]? = some x → Act7At w b (off + j * 4) x)
/-- A slice of integers. -/
theorem Try.cellsAct7 : Try.prog.cellsOf 44 = 4 := by kernel_rfl
theorem acts7_of {H : Type} {enc : TypeId × Value → H} {w : World} {fuel l c base : Nat} {A : Option Addr} {x : DataW H × List MemPlace} {hd : Bool} (h : DataW.trod enc Try.prog w base (fun _ => true) hd fuel 34 [.slice A l c] = some x) :
    ∃ ps, Acts7 w (.slice A l c) ps ∧ ps.length = l ∧ l ≤ maxLen := by
  have hlm : l ≤ maxLen := by
    rcases open_slice Try.underlying34 h with ⟨hcs, _⟩ | ⟨a, len, cap, m, n, D, Pl, hcs, _, hl, hm, _⟩
    · simp at hcs
      omega
    · simp at hcs
      omega
  by_cases hl : l = 0
  · subst hl
    exact ⟨[], ⟨A, 0, c, rfl, rfl, by simp [maxLen], fun h => absurd h (by omega)⟩, rfl, hlm⟩
  · rcases StructRow.of_trod Try.underlying34 Try.underlying44 (by kernel_rfl) Try.cellsAct7 (by decide) h (fun _ => .inl hl) with ⟨_, h0, _⟩ | ⟨b, off, rfl, hlc, hcm, hrow⟩
    · exact absurd h0 hl
    · have hx : ∀ i, i < l → ∃ x : Act7, Act7At w b (off + i * 4) x := by
        intro i hi
        obtain ⟨hb, hf⟩ := hrow i hi
        obtain ⟨v0, y0, k0, c0, r0⟩ := hf 0 _ rfl
        obtain ⟨v1, y1, k1, c1, r1⟩ := hf 1 _ rfl
        obtain ⟨v2, y2, k2, c2, r2⟩ := hf 2 _ rfl
        obtain ⟨v3, y3, k3, c3, r3⟩ := hf 3 _ rfl
        obtain ⟨xs, d0⟩ := its_of' r0
        obtain ⟨bb, h1, _⟩ := DataW.trod_bool Try.underlying4 r1
        simp only [List.cons.injEq, and_true] at h1
        subst h1
        obtain ⟨z2, h2, _⟩ := DataW.trod_int Try.underlying3 r2
        simp only [List.cons.injEq, and_true] at h2
        subst h2
        obtain ⟨z3, h3, _⟩ := DataW.trod_int Try.underlying3 r3
        simp only [List.cons.injEq, and_true] at h3
        subst h3
        exact ⟨⟨v0, xs, bb, z2, z3⟩, hb, c0, c1, c2, c3, d0⟩
      refine ⟨(List.range l).map (fun i => if hi : i < l then Classical.choose (hx i hi) else ⟨.slice none 0 0, [], false, 0, 0⟩), ⟨_, l, c, rfl, by simp, hlm, fun _ => ⟨b, off, rfl, fun j x hj => ?_⟩⟩, by simp, hlm⟩
      have hjl : j < l := by
        have := (List.getElem?_eq_some_iff.1 hj).1
        simpa using this
      simp only [List.getElem?_map, List.getElem?_range hjl, Option.map_some, Option.some.injEq] at hj
      rw [dif_pos hjl] at hj
      rw [← hj]
      exact Classical.choose_spec (hx j hjl)
/-- As a row's proof asks for them. -/
def BtsW (w : World) (v : Value) (xs : List Nat) : Prop := Bts w w.heap.size v xs
theorem btsW_of {H : Type} {enc : TypeId × Value → H} {w : World} {fuel l c base : Nat} {A : Option Addr} {x : DataW H × List MemPlace} {hd : Bool} (h : DataW.trod enc Try.prog w base (fun _ => true) hd fuel 35 [.slice A l c] = some x) :
    ∃ xs, BtsW w (.slice A l c) xs ∧ xs.length = l ∧ l ≤ maxLen := by
  obtain ⟨xs, h⟩ := bytes_of h
  have h' := h
  obtain ⟨A', n, c', e, h1, h2, _⟩ := h'
  injection e with _ e2 _
  subst e2
  exact ⟨xs, h, h1, h2⟩
end Go.Proofs.Ytfnegbcpiejdaab
