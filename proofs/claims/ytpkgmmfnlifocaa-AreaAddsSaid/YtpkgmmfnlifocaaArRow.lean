/-
  Areas that came in: lists of them, and one by value.
  Conditions: none.
-/
import Derived.Test.YtpkgmmfnlifocaaArI
import Derived.Test.YtpkgmmfnlifocaaGRow
namespace Go.Proofs.Ytpkgmmfnlifocaa
open Go.ChangeShapes Go.WideShapes Go.ChangeAt Go.RowKit Go.Deep Go.Joins
set_option linter.unusedVariables false

theorem Try.cellsArea17 : Try.prog.cellsOf 23 = 6 := by kernel_rfl
theorem Try.cellsInt17 : Try.prog.cellsOf 3 = 1 := by kernel_rfl
theorem Try.cellsBool17 : Try.prog.cellsOf 4 = 1 := by kernel_rfl
section
variable {H : Type} {enc : TypeId × Value → H} {w : World} {base : Nat} {hd : Bool}
theorem area17_of {row : List Value} {y : DataW H × List MemPlace} {fuel : Nat} (hl : row.length = 6) (h : DataW.trod enc Try.prog w base (fun _ => true) hd fuel 23 row = some y) :
    ∃ x : Ar, row = arL x ∧ WAr x := by
  match row, hl with
  | [c0, c1, c2, c3, c4, c5], _ =>
    obtain ⟨y0, y1, y2, y3, y4, y5, n, _, h0, h1, h2, h3, h4, h5⟩ := trod_struct6 Try.underlying23 h
    rw [Try.cellsInt17] at h0 h1 h3 h4 h5
    rw [Try.cellsBool17] at h2
    obtain ⟨a0, e0, w0⟩ := DataW.trod_int Try.underlying3 (show DataW.trod enc Try.prog w base (fun _ => true) hd n 3 [c0] = some y0 from h0)
    obtain ⟨a1, e1, w1⟩ := DataW.trod_int Try.underlying3 (show DataW.trod enc Try.prog w base (fun _ => true) hd n 3 [c1] = some y1 from h1)
    obtain ⟨a2, e2, _⟩ := DataW.trod_bool Try.underlying4 (show DataW.trod enc Try.prog w base (fun _ => true) hd n 4 [c2] = some y2 from h2)
    obtain ⟨a3, e3, w3⟩ := DataW.trod_int Try.underlying3 (show DataW.trod enc Try.prog w base (fun _ => true) hd n 3 [c3] = some y3 from h3)
    obtain ⟨a4, e4, w4⟩ := DataW.trod_int Try.underlying3 (show DataW.trod enc Try.prog w base (fun _ => true) hd n 3 [c4] = some y4 from h4)
    obtain ⟨a5, e5, w5⟩ := DataW.trod_int Try.underlying3 (show DataW.trod enc Try.prog w base (fun _ => true) hd n 3 [c5] = some y5 from h5)
    simp only [List.cons.injEq, and_true] at e0 e1 e2 e3 e4 e5
    exact ⟨⟨a0, a1, a2, a3, a4, a5⟩, by rw [e0, e1, e2, e3, e4, e5]; rfl, w0.2, w1.2, w3.2, w4.2, w5.2⟩
def ArsW (w : World) (v : Value) (ps : List Ar) : Prop := Ars w w.heap.size v ps
theorem arsW_of {fuel l c : Nat} {A : Option Addr} {x : DataW H × List MemPlace} (h : DataW.trod enc Try.prog w base (fun _ => true) hd fuel 26 [.slice A l c] = some x) :
    ∃ ps, ArsW w (.slice A l c) ps ∧ ps.length = l ∧ l ≤ maxLen := by
  obtain ⟨ps, ⟨h1, _⟩, hl, hm⟩ := gs_of arL 6 WAr (by decide) (fun x => rfl) ar0 Try.underlying26 Try.cellsArea17 (fun hl h => area17_of hl h) h
  exact ⟨ps, h1, hl, hm⟩
set_option maxRecDepth 20000 in
theorem areaV_of {r : Reach} {b0 : Nat} {v : Value} {d : DataW H} {p : List MemPlace} (hv : Value.okWide Try.prog w r b0 23 v) (h : DataW.Trod enc Try.prog w base (fun _ => true) hd 23 v d p) :
    ∃ x : {a : Ar // WAr a}, v = .agg #[.int .i64 x.1.fr, .int .i64 x.1.pg, .bool x.1.w, .int .i64 x.1.kd, .int .i64 x.1.fl, .int .i64 x.1.ofs] :=
  aggG_of arL 6 WAr Try.underlying23 Try.cellsArea17 (fun hl h => area17_of hl h) hv h
set_option maxRecDepth 20000 in
theorem boolV_of {r : Reach} {b0 : Nat} {v : Value} {d : DataW H} {p : List MemPlace} (hv : Value.okWide Try.prog w r b0 4 v) (h : DataW.Trod enc Try.prog w base (fun _ => true) hd 4 v d p) :
    ∃ x : Bool, v = .bool x := by
  obtain ⟨b, rfl⟩ := okWide_bool Try.underlying4 hv
  exact ⟨b, rfl⟩
end
end Go.Proofs.Ytpkgmmfnlifocaa
