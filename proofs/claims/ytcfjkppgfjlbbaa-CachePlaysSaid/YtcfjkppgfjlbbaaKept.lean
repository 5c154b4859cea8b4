/-
  A piece of code in a great frame: which slots it leaves as they were, as one equation of masks; the frame opened again. Nothing of the program is named here.
  Conditions: none.
-/
import Derived.Test.YtcfjkppgfjlbbaaPieces
namespace Go.Proofs.Ytcfjkppgfjlbbaa
open Go.RowKit

def mskL : List Bool → List Value → List (Option Value)
  | true :: bs, x :: xs => some x :: mskL bs xs
  | false :: bs, _ :: xs => none :: mskL bs xs
  | _, _ => []
def mrg : List Bool → List Value → (Nat → Value) → Nat → List Value
  | true :: bs, x :: xs, f, i => x :: mrg bs xs f (i + 1)
  | false :: bs, _ :: xs, f, i => f i :: mrg bs xs f (i + 1)
  | _, _, _, _ => []
/-- The slots that bs marks are as they were. -/
structure Kept (bs : List Bool) (a a' : Act) : Prop where
  d : a'.defers = []
  s : a'.tmps.size = bs.length
  k : mskL bs a'.tmps.toList = mskL bs a.tmps.toList
theorem mrg_eq : ∀ (bs : List Bool) (xs ys : List Value) (f : Nat → Value) (i : Nat), ys.length = bs.length → xs.length = bs.length → mskL bs ys = mskL bs xs → (∀ j u, ys[j]? = some u → f (i + j) = u) → ys = mrg bs xs f i
  | [], xs, ys, f, i, h1, _, _, _ => by
    cases ys with
    | nil => rfl
    | cons y ys => simp at h1
  | b :: bs, xs, ys, f, i, h1, h2, h3, h4 => by
    cases ys with
    | nil => simp at h1
    | cons y ys =>
      cases xs with
      | nil => simp at h2
      | cons x xs =>
        have h4' : ∀ j u, ys[j]? = some u → f (i + 1 + j) = u := fun j u h => by
          have := h4 (j + 1) u (by simpa using h)
          rw [show i + 1 + j = i + (j + 1) by omega]
          exact this
        cases b with
        | true =>
          simp only [mskL, List.cons.injEq, Option.some.injEq] at h3
          obtain ⟨rfl, h3⟩ := h3
          exact congrArg (y :: ·) (mrg_eq bs xs ys f (i + 1) (by simpa using h1) (by simpa using h2) h3 h4')
        | false =>
          simp only [mskL, List.cons.injEq, true_and] at h3
          have h0 := h4 0 y rfl
          rw [Nat.add_zero] at h0
          show y :: ys = f i :: mrg bs xs f (i + 1)
          rw [h0, ← mrg_eq bs xs ys f (i + 1) (by simpa using h1) (by simpa using h2) h3 h4']
theorem Kept.open_ {bs : List Bool} {a a' : Act} (h : Kept bs a a') (ha : a.tmps.size = bs.length) : ∃ v : Nat → Value, (∀ k, a'.tmps.getD k undef = v k) ∧ a' = ⟨(mrg bs a.tmps.toList v 0).toArray, []⟩ := by
  refine ⟨fun k => a'.tmps.getD k undef, fun k => rfl, ?_⟩
  obtain ⟨t, d⟩ := a'
  obtain ⟨hd, hs, hk⟩ := h
  simp only at hd hs hk
  subst hd
  have := mrg_eq bs a.tmps.toList t.toList (fun k => t.getD k undef) 0 (by simpa using hs) (by simpa using ha) hk (fun j u hu => by
    rw [Nat.zero_add, Array.getD_eq_getD_getElem?]
    simp only [Array.getElem?_toList] at hu
    rw [hu]
    rfl)
  rw [← this]
end Go.Proofs.Ytcfjkppgfjlbbaa
