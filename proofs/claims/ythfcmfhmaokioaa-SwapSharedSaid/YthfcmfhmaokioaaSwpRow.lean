/-
  Acts and places of layer 16's statements that came in.
  Conditions: none.
-/
import Derived.Test.YthfcmfhmaokioaaSwpQ
import Derived.Test.YthfcmfhmaokioaaGRow
namespace Go.Proofs.Ythfcmfhmaokioaa
open Go.ChangeShapes Go.WideShapes Go.ChangeAt Go.RowKit Go.Deep Go.Joins
set_option linter.unusedVariables false

theorem Try.cellsAct16 : Try.prog.cellsOf 31 = 4 := by kernel_rfl
theorem Try.cellsPlace16 : Try.prog.cellsOf 29 = 2 := by kernel_rfl
theorem Try.cellsInt16 : Try.prog.cellsOf 3 = 1 := by kernel_rfl
theorem Try.cellsBool16 : Try.prog.cellsOf 4 = 1 := by kernel_rfl
section
variable {H : Type} {enc : TypeId × Value → H} {w : World} {base : Nat} {hd : Bool}
def plL (p : Pl) : List Value := [.int .i64 p.c, .int .i64 p.g]
def act16L (x : Act16) : List Value := [.bool x.hold, .int .i64 x.n, .int .i64 x.p.c, .int .i64 x.p.g]
theorem place16_of {row : List Value} {y : DataW H × List MemPlace} {fuel : Nat} (hl : row.length = 2) (h : DataW.trod enc Try.prog w base (fun _ => true) hd fuel 29 row = some y) :
    ∃ x : Pl, row = plL x ∧ ((Lit.int .i64 x.c).wf = true ∧ (Lit.int .i64 x.g).wf = true) := by
  match row, hl with
  | [c0, c1], _ =>
    obtain ⟨y0, y1, n, _, _, h0, h1⟩ := trod_struct2 Try.underlying29 h
    rw [Try.cellsInt16] at h0 h1
    obtain ⟨a0, e0, w0⟩ := DataW.trod_int Try.underlying3 (show DataW.trod enc Try.prog w base (fun _ => true) hd n 3 [c0] = some y0 from h0)
    obtain ⟨a1, e1, w1⟩ := DataW.trod_int Try.underlying3 (show DataW.trod enc Try.prog w base (fun _ => true) hd n 3 [c1] = some y1 from h1)
    simp only [List.cons.injEq, and_true] at e0 e1
    exact ⟨⟨a0, a1⟩, by rw [e0, e1]; rfl, w0.2, w1.2⟩
theorem act16_of {row : List Value} {y : DataW H × List MemPlace} {fuel : Nat} (hl : row.length = 4) (h : DataW.trod enc Try.prog w base (fun _ => true) hd fuel 31 row = some y) :
    ∃ x : Act16, row = act16L x ∧ WPl x.p := by
  match row, hl with
  | [c0, c1, c2, c3], _ =>
    obtain ⟨y0, y1, y2, n, _, _, h0, h1, h2⟩ := trod_struct3 Try.underlying31 h
    rw [Try.cellsBool16] at h0
    rw [Try.cellsInt16] at h1
    rw [Try.cellsPlace16] at h2
    obtain ⟨a0, e0, _⟩ := DataW.trod_bool Try.underlying4 (show DataW.trod enc Try.prog w base (fun _ => true) hd n 4 [c0] = some y0 from h0)
    obtain ⟨a1, e1, _⟩ := DataW.trod_int Try.underlying3 (show DataW.trod enc Try.prog w base (fun _ => true) hd n 3 [c1] = some y1 from h1)
    obtain ⟨x, e2, wx⟩ := place16_of rfl (show DataW.trod enc Try.prog w base (fun _ => true) hd n 29 [c2, c3] = some y2 from h2)
    simp only [List.cons.injEq, and_true] at e0 e1
    unfold plL at e2
    simp only [List.cons.injEq, and_true] at e2
    exact ⟨⟨a0, a1, x⟩, by rw [e0, e1, e2.1, e2.2]; rfl, wx⟩
def ActsW16 (w : World) (v : Value) (ps : List Act16) : Prop := Acts16 w v ps ∧ ∀ x ∈ ps, WPl x.p
theorem actsW16_of {fuel l c : Nat} {A : Option Addr} {x : DataW H × List MemPlace} (h : DataW.trod enc Try.prog w base (fun _ => true) hd fuel 22 [.slice A l c] = some x) :
    ∃ ps, ActsW16 w (.slice A l c) ps ∧ ps.length = l ∧ l ≤ maxLen := by
  obtain ⟨ps, ⟨⟨A', n, c', e, h2, h3, h4, h5, h6⟩, hw⟩, hl, hm⟩ := gs_of act16L 4 (fun x => WPl x.p) (by decide) (fun x => rfl) ⟨false, 0, ⟨0, 0⟩⟩ Try.underlying22 Try.cellsAct16 (fun hl h => act16_of hl h) h
  injection e with e1 e2 e3
  subst e1 e2 e3
  exact ⟨ps, ⟨⟨A, l, c, rfl, h2, hm, fun h0 => by
    obtain ⟨b, o, hA, hb, hc⟩ := h6 h0
    exact ⟨b, o, hA, fun j x hj => ⟨hb, hc j x hj 0 _ rfl, hc j x hj 1 _ rfl, hc j x hj 2 _ rfl, hc j x hj 3 _ rfl⟩⟩⟩, hw⟩, hl, hm⟩
def PlsW16 (w : World) (v : Value) (ps : List Pl) : Prop := Pls w w.heap.size v ps ∧ ∀ p ∈ ps, WPl p
theorem plsW16_of {fuel l c : Nat} {A : Option Addr} {x : DataW H × List MemPlace} (h : DataW.trod enc Try.prog w base (fun _ => true) hd fuel 26 [.slice A l c] = some x) :
    ∃ ps, PlsW16 w (.slice A l c) ps ∧ ps.length = l ∧ l ≤ maxLen := by
  obtain ⟨ps, ⟨⟨A', n, c', e, h2, h3, h4, h5, h6⟩, hw⟩, hl, hm⟩ := gs_of plL 2 (fun p => WPl p) (by decide) (fun x => rfl) pl0 Try.underlying26 Try.cellsPlace16 (fun hl h => place16_of hl h) h
  injection e with e1 e2 e3
  subst e1 e2 e3
  refine ⟨ps, ⟨⟨A, l, c, rfl, h2, h3, h4, fun e => (by
    rcases Nat.eq_zero_or_pos c with h | h
    · exact h
    · obtain ⟨b, o, hA⟩ := h5 h
      rw [e] at hA
      cases hA), fun h0 => ?_⟩, hw⟩, hl, hm⟩
  obtain ⟨b, o, hA, hb, hc⟩ := h6 h0
  refine ⟨b, o, hA, hb, fun j hj => ?_⟩
  have e : ps[j]? = some (ps.getD j pl0) := by rw [List.getD_eq_getElem?_getD, List.getElem?_eq_getElem (by omega)]; rfl
  exact ⟨hc j _ e 0 _ rfl, hc j _ e 1 _ rfl⟩
end
end Go.Proofs.Ythfcmfhmaokioaa
