/-
  A place, a signal, a cache's key by value, and lists of keys, that came in.
  Conditions: none.
-/
import Derived.Test.YtkdniihnilcpfaaBkM
import Derived.Test.YtkdniihnilcpfaaGRow
import Derived.Test.YtkdniihnilcpfaaProg
namespace Go.Proofs.Ytkdniihnilcpfaa
open Go.ChangeShapes Go.WideShapes Go.ChangeAt Go.RowKit Go.Deep Go.Joins
theorem Try.cellsSigP : Try.prog.cellsOf 29 = 2 := by kernel_rfl
theorem Try.cellsIntP : Try.prog.cellsOf 3 = 1 := by kernel_rfl
abbrev WPp (p : Pl) : Prop := (Lit.int .i64 p.c).wf = true ∧ (Lit.int .i64 p.g).wf = true
def plLp (p : Pl) : List Value := [.int .i64 p.c, .int .i64 p.g]
section
variable {H : Type} {enc : TypeId × Value → H} {w : World} {base : Nat} {hd : Bool}
theorem pair_of {t : TypeId} {f0 f1 : Field} (ht : Try.prog.underlying t = some (.struct #[f0, f1])) (h0t : f0.type = 3) (h1t : f1.type = 3) (o0 : f0.offset = 0) (o1 : f1.offset = 1) {row : List Value} {y : DataW H × List MemPlace} {fuel : Nat} (hl : row.length = 2) (h : DataW.trod enc Try.prog w base (fun _ => true) hd fuel t row = some y) :
    ∃ x : Pl, row = plLp x ∧ WPp x := by
  match row, hl with
  | [c0, c1], _ =>
    obtain ⟨y0, y1, n, _, _, h0, h1⟩ := trod_struct2 ht h
    rw [h0t, o0, Try.cellsIntP] at h0
    rw [h1t, o1, Try.cellsIntP] at h1
    obtain ⟨a0, e0, w0⟩ := DataW.trod_int Try.underlying3 (show DataW.trod enc Try.prog w base (fun _ => true) hd n 3 [c0] = some y0 from h0)
    obtain ⟨a1, e1, w1⟩ := DataW.trod_int Try.underlying3 (show DataW.trod enc Try.prog w base (fun _ => true) hd n 3 [c1] = some y1 from h1)
    simp only [List.cons.injEq, and_true] at e0 e1
    exact ⟨⟨a0, a1⟩, by rw [e0, e1]; rfl, w0.2, w1.2⟩
set_option maxRecDepth 20000 in
theorem sigP_of {r : Reach} {b0 : Nat} {v : Value} {d : DataW H} {p : List MemPlace} (hv : Value.okWide Try.prog w r b0 29 v) (h : DataW.Trod enc Try.prog w base (fun _ => true) hd 29 v d p) :
    ∃ x : {p : Pl // WPp p}, v = .agg #[.int .i64 x.1.c, .int .i64 x.1.g] :=
  aggG_of plLp 2 WPp Try.underlying29 Try.cellsSigP (fun hl h => pair_of Try.underlying29 rfl rfl rfl rfl hl h) hv h
def KeysWp (w : World) (v : Value) (ps : List Pl) : Prop := Pls w w.heap.size v ps ∧ ∀ p ∈ ps, WPp p
end
end Go.Proofs.Ytkdniihnilcpfaa
