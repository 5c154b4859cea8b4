/-
  A slice of acts that came in, as it lies in memory.
  Conditions: none beside those that each line bears.
-/
import Derived.Test.YtfnegbcpiejdaaaJouPl
import Derived.Test.YtfnegbcpiejdaaaSlRow
import Derived.Test.YtfnegbcpiejdaaaBas
namespace Go.Proofs.Ytfnegbcpiejdaaa
open Go.ChangeShapes Go.WideShapes Go.ChangeAt Go.RowKit Go.Deep
set_option linter.unusedVariables false

theorem Try.cellsAct6 : Try.prog.cellsOf 33 = 2 := by kernel_rfl
theorem acts_of {H : Type} {enc : TypeId × Value → H} {w : World} {fuel l c base : Nat} {A : Option Addr} {x : DataW H × List MemPlace} {hd : Bool} (h : DataW.trod enc Try.prog w base (fun _ => true) hd fuel 22 [.slice A l c] = some x) :
    ∃ ps, ActsJ w (.slice A l c) ps ∧ ps.length = l ∧ l ≤ maxLen := by
  have hlm : l ≤ maxLen := by
    rcases open_slice Try.underlying22 h with ⟨hcs, _⟩ | ⟨a, len, cap, m, n, D, Pl, hcs, _, hl, hm, _⟩
    · simp at hcs
      omega
    · simp at hcs
      omega
  by_cases hl : l = 0
  · subst hl
    exact ⟨[], ⟨A, 0, c, rfl, rfl, by simp [maxLen], fun h => absurd h (by omega)⟩, rfl, hlm⟩
  · rcases StructRow.of_trod Try.underlying22 Try.underlying33 (by kernel_rfl) Try.cellsAct6 (by decide) h (fun _ => .inl hl) with ⟨_, h0, _⟩ | ⟨b, off, rfl, hlc, hcm, hrow⟩
    · exact absurd h0 hl
    · have hx : ∀ i, i < l → ∃ x : ActJ, ActJAt w b (off + i * 2) x := by
        intro i hi
        obtain ⟨hb, hf⟩ := hrow i hi
        obtain ⟨v0, y0, k0, c0, r0⟩ := hf 0 _ rfl
        obtain ⟨v1, y1, k1, c1, r1⟩ := hf 1 _ rfl
        obtain ⟨bb, h1, _⟩ := DataW.trod_bool Try.underlying4 r0
        simp only [List.cons.injEq, and_true] at h1
        subst h1
        obtain ⟨xs, d1⟩ := bytes_of r1
        exact ⟨⟨bb, v1, xs⟩, hb, c0, c1, d1⟩
      refine ⟨(List.range l).map (fun i => if hi : i < l then Classical.choose (hx i hi) else ⟨false, .slice none 0 0, []⟩), ⟨_, l, c, rfl, by simp, hlm, fun _ => ⟨b, off, rfl, fun j x hj => ?_⟩⟩, by simp, hlm⟩
      have hjl : j < l := by
        have := (List.getElem?_eq_some_iff.1 hj).1
        simpa using this
      simp only [List.getElem?_map, List.getElem?_range hjl, Option.map_some, Option.some.injEq] at hj
      rw [dif_pos hjl] at hj
      rw [← hj]
      exact Classical.choose_spec (hx j hjl)
end Go.Proofs.Ytfnegbcpiejdaaa
