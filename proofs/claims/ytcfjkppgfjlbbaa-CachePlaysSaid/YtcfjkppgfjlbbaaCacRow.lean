/-
  The acts of layer 15's statements that came in.
  Conditions: none.
-/
import Derived.Test.YtcfjkppgfjlbbaaCacQ
import Derived.Test.YtcfjkppgfjlbbaaPlRow
namespace Go.Proofs.Ytcfjkppgfjlbbaa
open Go.ChangeShapes Go.WideShapes Go.ChangeAt Go.RowKit Go.Deep Go.Joins
set_option linter.unusedVariables false

theorem Try.cellsAct15 : Try.prog.cellsOf 32 = 5 := by kernel_rfl
theorem Try.cellsBool15 : Try.prog.cellsOf 4 = 1 := by kernel_rfl
section
variable {H : Type} {enc : TypeId × Value → H} {w : World} {base : Nat} {hd : Bool}
def act15L (x : Act15) : List Value := [.int .i64 x.wh, .int .i64 x.f, .int .i64 x.k.c, .int .i64 x.k.g, .bool x.d]
set_option maxRecDepth 20000 in
theorem act15_of {row : List Value} {y : DataW H × List MemPlace} {fuel : Nat} (hl : row.length = 5) (h : DataW.trod enc Try.prog w base (fun _ => true) hd fuel 32 row = some y) :
    ∃ x : Act15, row = act15L x ∧ (WPlc x.k ∧ W64c x.f) := by
  match row, hl with
  | [c0, c1, c2, c3, c4], _ =>
    obtain ⟨y0, y1, y2, y3, n, _, _, h0, h1, h2, h3⟩ := trod_struct4 Try.underlying32 h
    rw [Try.cellsIntP] at h0 h1
    rw [Try.cellsKeyP] at h2
    rw [Try.cellsBool15] at h3
    obtain ⟨a0, e0, _⟩ := DataW.trod_int Try.underlying3 (show DataW.trod enc Try.prog w base (fun _ => true) hd n 3 [c0] = some y0 from h0)
    obtain ⟨a1, e1, w1⟩ := DataW.trod_int Try.underlying3 (show DataW.trod enc Try.prog w base (fun _ => true) hd n 3 [c1] = some y1 from h1)
    obtain ⟨x, e2, wx⟩ := pair_of Try.underlying30 rfl rfl rfl rfl rfl (show DataW.trod enc Try.prog w base (fun _ => true) hd n 30 [c2, c3] = some y2 from h2)
    obtain ⟨a3, e3, _⟩ := DataW.trod_bool Try.underlying4 (show DataW.trod enc Try.prog w base (fun _ => true) hd n 4 [c4] = some y3 from h3)
    simp only [List.cons.injEq, and_true] at e0 e1 e3
    unfold plLp at e2
    simp only [List.cons.injEq, and_true] at e2
    exact ⟨⟨a0, a1, x, a3⟩, by rw [e0, e1, e2.1, e2.2, e3]; rfl, wx, w1.2⟩
theorem acts15_of {fuel l c : Nat} {A : Option Addr} {x : DataW H × List MemPlace} (h : DataW.trod enc Try.prog w base (fun _ => true) hd fuel 22 [.slice A l c] = some x) :
    ∃ ps, Acts15 w (.slice A l c) ps ∧ ps.length = l ∧ l ≤ maxLen := by
  obtain ⟨ps, ⟨⟨A', n, c', e, h2, h3, h4, h5, h6⟩, hw⟩, hl, hm⟩ := gs_of act15L 5 (fun x => WPlc x.k ∧ W64c x.f) (by decide) (fun x => rfl) ⟨0, 0, ⟨0, 0⟩, false⟩ Try.underlying22 Try.cellsAct15 (fun hl h => act15_of hl h) h
  injection e with e1 e2 e3
  subst e1 e2 e3
  exact ⟨ps, ⟨A, l, c, rfl, h2, hm, fun h0 => by
    obtain ⟨b, o, hA, hb, hc⟩ := h6 h0
    exact ⟨b, o, hA, fun j x hj => ⟨hb, hc j x hj 0 _ rfl, hc j x hj 1 _ rfl, hc j x hj 2 _ rfl, hc j x hj 3 _ rfl, hc j x hj 4 _ rfl, (hw x (List.mem_of_getElem? hj)).1, (hw x (List.mem_of_getElem? hj)).2⟩⟩⟩, hl, hm⟩
end
end Go.Proofs.Ytcfjkppgfjlbbaa
