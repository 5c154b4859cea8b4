/-
  An entry that came in by value.
  Conditions: none.
-/
import Derived.Test.YtcoppldljmnoiaaEntP
import Derived.Test.YtcoppldljmnoiaaProg
import Derived.Lib.SmallJoins
import Derived.OpenShut
namespace Go.Proofs.Ytcoppldljmnoiaa
open Go.ChangeShapes Go.WideShapes Go.ChangeAt Go.RowKit Go.Deep Go.Joins
set_option linter.unusedVariables false

theorem Try.cellsEntry : Try.prog.cellsOf 23 = 3 := by kernel_rfl
theorem ent_of {H : Type} {enc : TypeId × Value → H} {w : World} {r : Reach} {b0 base : Nat} {hd : Bool} {v : Value} {d : DataW H} {p : List MemPlace} (hv : Value.okWide Try.prog w r b0 23 v) (h : DataW.Trod enc Try.prog w base (fun _ => true) hd 23 v d p) :
    ∃ x : En, v = .agg #[.int .i64 x.k, .int .i64 x.n, .bool x.w] := by
  obtain ⟨v0, v1, v2, y0, y1, y2, n, rfl, _, _, h0, h1, h2⟩ := open_agg3 Try.underlying23 (by kernel_rfl) Try.cellsEntry hv h
  obtain ⟨z0, e0, _⟩ := DataW.trod_int Try.underlying3 h0
  simp only [List.cons.injEq, and_true] at e0
  subst e0
  obtain ⟨z1, e1, _⟩ := DataW.trod_int Try.underlying3 h1
  simp only [List.cons.injEq, and_true] at e1
  subst e1
  obtain ⟨bb, e2, _⟩ := DataW.trod_bool Try.underlying4 h2
  simp only [List.cons.injEq, and_true] at e2
  subst e2
  exact ⟨⟨z0, z1, bb⟩, rfl⟩
end Go.Proofs.Ytcoppldljmnoiaa
