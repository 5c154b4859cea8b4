/-
  The acts of layer 10's statements, as they lie in memory.
  Conditions: none beside those that each line bears.
-/
import Derived.Test.YtkpjimpjopbdkaaVals
import Derived.Test.YtkpjimpjopbdkaaSlRow
import Derived.Test.YtkpjimpjopbdkaaIntsRow
namespace Go.Proofs.Ytkpjimpjopbdkaa
open Go.ChangeShapes Go.WideShapes Go.ChangeAt Go.RowKit Go.Deep
set_option linter.unusedVariables false

/-- One act: what, its two numbers, its truth value, and the frames. -/
structure Act10 where
  what : Int
  a : Int
  b : Int
  on : Bool
  v : Value
  bs : List Int
def Act10At (w : World) (g o : Nat) (x : Act10) : Prop :=
  g < w.heap.size ∧ w.cell? ⟨g, o, none⟩ = some (.int .i64 x.what) ∧ w.cell? ⟨g, o + 1, none⟩ = some (.int .i64 x.a) ∧ w.cell? ⟨g, o + 2, none⟩ = some (.int .i64 x.b) ∧ w.cell? ⟨g, o + 3, none⟩ = some (.bool x.on) ∧ w.cell? ⟨g, o + 4, none⟩ = some x.v ∧ Its w w.heap.size x.v x.bs
def Acts10 (w : World) (v : Value) (ps : List Act10) : Prop :=
  ∃ A n c, v = .slice A n c ∧ ps.length = n ∧ n ≤ maxLen ∧ (0 < n → ∃ b off, A = some ⟨b, off, none⟩ ∧ ∀ j x, ps[j]? = some x → Act10At w b (off + j * 5) x)
theorem Try.cellsAct10 : Try.prog.cellsOf 34 = 5 := by kernel_rfl
theorem acts10_of {H : Type} {enc : TypeId × Value → H} {w : World} {fuel l c base : Nat} {A : Option Addr} {x : DataW H × List MemPlace} {hd : Bool} (h : DataW.trod enc Try.prog w base (fun _ => true) hd fuel 22 [.slice A l c] = some x) :
    ∃ ps, Acts10 w (.slice A l c) ps ∧ ps.length = l ∧ l ≤ maxLen := by
  have hlm : l ≤ maxLen := by
    rcases open_slice Try.underlying22 h with ⟨hcs, _⟩ | ⟨a, len, cap, m, n, D, Pl, hcs, _, hl, hm, _⟩
    · simp at hcs
      omega
    · simp at hcs
      omega
  by_cases hl : l = 0
  · subst hl
    exact ⟨[], ⟨A, 0, c, rfl, rfl, by simp [maxLen], fun h => absurd h (by omega)⟩, rfl, hlm⟩
  · rcases StructRow.of_trod Try.underlying22 Try.underlying34 (by kernel_rfl) Try.cellsAct10 (by decide) h (fun _ => .inl hl) with ⟨_, h0, _⟩ | ⟨b, off, rfl, hlc, hcm, hrow⟩
    · exact absurd h0 hl
    · have hx : ∀ i, i < l → ∃ x : Act10, Act10At w b (off + i * 5) x := by
        intro i hi
        obtain ⟨hb, hf⟩ := hrow i hi
        obtain ⟨v0, y0, k0, c0, r0⟩ := hf 0 _ rfl
        obtain ⟨v1, y1, k1, c1, r1⟩ := hf 1 _ rfl
        obtain ⟨v2, y2, k2, c2, r2⟩ := hf 2 _ rfl
        obtain ⟨v3, y3, k3, c3, r3⟩ := hf 3 _ rfl
        obtain ⟨v4, y4, k4, c4, r4⟩ := hf 4 _ rfl
        obtain ⟨z0, h0, _⟩ := DataW.trod_int Try.underlying3 r0
        simp only [List.cons.injEq, and_true] at h0
        subst h0
        obtain ⟨z1, h1, _⟩ := DataW.trod_int Try.underlying3 r1
        simp only [List.cons.injEq, and_true] at h1
        subst h1
        obtain ⟨z2, h2, _⟩ := DataW.trod_int Try.underlying3 r2
        simp only [List.cons.injEq, and_true] at h2
        subst h2
        obtain ⟨bb, h3, _⟩ := DataW.trod_bool Try.underlying4 r3
        simp only [List.cons.injEq, and_true] at h3
        subst h3
        obtain ⟨xs, d4⟩ := its_of' r4
        exact ⟨⟨z0, z1, z2, bb, v4, xs⟩, hb, c0, c1, c2, c3, c4, d4⟩
      refine ⟨(List.range l).map (fun i => if hi : i < l then Classical.choose (hx i hi) else ⟨0, 0, 0, false, .slice none 0 0, []⟩), ⟨_, l, c, rfl, by simp, hlm, fun _ => ⟨b, off, rfl, fun j x hj => ?_⟩⟩, by simp, hlm⟩
      have hjl : j < l := by
        have := (List.getElem?_eq_some_iff.1 hj).1
        simpa using this
      simp only [List.getElem?_map, List.getElem?_range hjl, Option.map_some, Option.some.injEq] at hj
      rw [dif_pos hjl] at hj
      rw [← hj]
      exact Classical.choose_spec (hx j hjl)
end Go.Proofs.Ytkpjimpjopbdkaa
