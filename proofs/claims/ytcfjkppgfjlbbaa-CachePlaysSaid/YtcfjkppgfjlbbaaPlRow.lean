/-
  A place, a signal, a cache's key by value, and lists of keys, that came in.
  Conditions: none.
-/
import Derived.Test.YtcfjkppgfjlbbaaBkM
import Derived.Test.YtcfjkppgfjlbbaaGRow
import Derived.Test.YtcfjkppgfjlbbaaProg
namespace Go.Proofs.Ytcfjkppgfjlbbaa
open Go.ChangeShapes Go.WideShapes Go.ChangeAt Go.RowKit Go.Deep Go.Joins
theorem Try.cellsKeyP : Try.prog.cellsOf 30 = 2 := by kernel_rfl
theorem Try.cellsIntP : Try.prog.cellsOf 3 = 1 := by kernel_rfl
abbrev WPp (p : Pl) : Prop := (Lit.int .i64 p.c).wf = true ∧ (Lit.int .i64 p.g).wf = true
def plLp (p : Pl) : List Value := [.int .i64 p.c, .int .i64 p.g]
section
variable {H : Type} {enc : TypeId × Value → H} {w : World} {base : Nat} {hd : Bool}
theorem pair_of {t : TypeId} {f0 f1 : Field} (ht : Try.prog.underlying t = some (.struct #[f0, f1])) (h0t : f0.type = 3) (h1t : f1.type = 3) (o0 : f0.offset = 0) (o1 : f1.offset = 1) {row : List Value} {y : DataW H × List MemPlace} {fuel : Nat} (hl : row.length = 2) (h : DataW.trod enc Try.prog w base (fun _ => true) hd fuel t row = some y) :
    ∃ x : Pl, row = plLp x ∧ WPp x := by
  match row, hl with
  | [c0, c1], _ =>
    obtain ⟨y0, y1, n, _, _, h0, h1⟩ := trod_struct2 ht h
    rw [h0t, o0, Try.cellsIntP] at h0
    rw [h1t, o1, Try.cellsIntP] at h1
    obtain ⟨a0, e0, w0⟩ := DataW.trod_int Try.underlying3 (show DataW.trod enc Try.prog w base (fun _ => true) hd n 3 [c0] = some y0 from h0)
    obtain ⟨a1, e1, w1⟩ := DataW.trod_int Try.underlying3 (show DataW.trod enc Try.prog w base (fun _ => true) hd n 3 [c1] = some y1 from h1)
    simp only [List.cons.injEq, and_true] at e0 e1
    exact ⟨⟨a0, a1⟩, by rw [e0, e1]; rfl, w0.2, w1.2⟩
set_option maxRecDepth 20000 in
theorem keyP_of {r : Reach} {b0 : Nat} {v : Value} {d : DataW H} {p : List MemPlace} (hv : Value.okWide Try.prog w r b0 30 v) (h : DataW.Trod enc Try.prog w base (fun _ => true) hd 30 v d p) :
    ∃ x : {p : Pl // WPp p}, v = .agg #[.int .i64 x.1.c, .int .i64 x.1.g] :=
  aggG_of plLp 2 WPp Try.underlying30 Try.cellsKeyP (fun hl h => pair_of Try.underlying30 rfl rfl rfl rfl hl h) hv h
def KeysWp (w : World) (v : Value) (ps : List Pl) : Prop := Pls w w.heap.size v ps ∧ ∀ p ∈ ps, WPp p
theorem keysWp_of {fuel l c : Nat} {A : Option Addr} {x : DataW H × List MemPlace} (h : DataW.trod enc Try.prog w base (fun _ => true) hd fuel 26 [.slice A l c] = some x) :
    ∃ ps, KeysWp w (.slice A l c) ps ∧ ps.length = l ∧ l ≤ maxLen := by
  obtain ⟨ps, ⟨⟨A', n, c', e, h2, h3, h4, h5, h6⟩, hw⟩, hl, hm⟩ := gs_of plLp 2 WPp (by decide) (fun x => rfl) pl0 Try.underlying26 Try.cellsKeyP (fun hl h => pair_of Try.underlying30 rfl rfl rfl rfl hl h) h
  injection e with e1 e2 e3
  subst e1 e2 e3
  refine ⟨ps, ⟨⟨A, l, c, rfl, h2, h3, h4, fun e => (by
    rcases Nat.eq_zero_or_pos c with h | h
    · exact h
    · obtain ⟨b, o, hA⟩ := h5 h
      rw [e] at hA
      cases hA), fun h0 => ?_⟩, hw⟩, hl, hm⟩
  obtain ⟨b, o, hA, hb, hc⟩ := h6 h0
  refine ⟨b, o, hA, hb, fun j hj => ?_⟩
  have e : ps[j]? = some (ps.getD j pl0) := by rw [List.getD_eq_getElem?_getD, List.getElem?_eq_getElem (by omega)]; rfl
  exact ⟨hc j _ e 0 _ rfl, hc j _ e 1 _ rfl⟩
end
end Go.Proofs.Ytcfjkppgfjlbbaa
