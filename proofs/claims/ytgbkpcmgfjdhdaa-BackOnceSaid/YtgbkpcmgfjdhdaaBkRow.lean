/-
  Places and acts of layer 13's statements that came in.
  Conditions: none.
-/
import Derived.Test.YtgbkpcmgfjdhdaaBkQ
import Derived.Test.YtgbkpcmgfjdhdaaSlRow
import Derived.Lib.SmallJoins
import Derived.OpenShut
namespace Go.Proofs.Ytgbkpcmgfjdhdaa
open Go.ChangeShapes Go.WideShapes Go.ChangeAt Go.RowKit Go.Deep Go.Joins
set_option linter.unusedVariables false

theorem Try.cellsAct13 : Try.prog.cellsOf 31 = 5 := by kernel_rfl
theorem Try.cellsPlace13 : Try.prog.cellsOf 29 = 2 := by kernel_rfl
theorem Try.cellsInt13 : Try.prog.cellsOf 3 = 1 := by kernel_rfl
theorem place13_of {H : Type} {enc : TypeId × Value → H} {w : World} {base fuel : Nat} {hd : Bool} {row : List Value} {y : DataW H × List MemPlace} (hl : row.length = 2) (h : DataW.trod enc Try.prog w base (fun _ => true) hd fuel 29 row = some y) :
    ∃ x : Pl, row = [.int .i64 x.c, .int .i64 x.g] ∧ WPl x := by
  match row, hl with
  | [c0, c1], _ =>
    obtain ⟨y0, y1, n, _, _, h0, h1⟩ := trod_struct2 Try.underlying29 h
    rw [Try.cellsInt13] at h0 h1
    have h0' : DataW.trod enc Try.prog w base (fun _ => true) hd n 3 [c0] = some y0 := h0
    have h1' : DataW.trod enc Try.prog w base (fun _ => true) hd n 3 [c1] = some y1 := h1
    obtain ⟨a0, e0, w0⟩ := DataW.trod_int Try.underlying3 h0'
    obtain ⟨a1, e1, w1⟩ := DataW.trod_int Try.underlying3 h1'
    simp only [List.cons.injEq, and_true] at e0 e1
    exact ⟨⟨a0, a1⟩, by rw [e0, e1], w0.2, w1.2⟩
set_option maxRecDepth 20000 in
theorem placeV_of {H : Type} {enc : TypeId × Value → H} {w : World} {r : Reach} {b0 base : Nat} {hd : Bool} {v : Value} {d : DataW H} {p : List MemPlace} (hv : Value.okWide Try.prog w r b0 29 v) (h : DataW.Trod enc Try.prog w base (fun _ => true) hd 29 v d p) :
    ∃ x : {p : Pl // WPl p}, v = .agg #[.int .i64 x.1.c, .int .i64 x.1.g] := by
  obtain ⟨v0, v1, y0, y1, n, rfl, _, _, h0, h1⟩ := open_agg2 Try.underlying29 (by kernel_rfl) Try.cellsPlace13 hv h
  obtain ⟨z0, e0, w0⟩ := DataW.trod_int Try.underlying3 h0
  simp only [List.cons.injEq, and_true] at e0
  subst e0
  obtain ⟨z1, e1, w1⟩ := DataW.trod_int Try.underlying3 h1
  simp only [List.cons.injEq, and_true] at e1
  subst e1
  exact ⟨⟨⟨z0, z1⟩, w0.2, w1.2⟩, rfl⟩
theorem act13_of {H : Type} {enc : TypeId × Value → H} {w : World} {base fuel : Nat} {hd : Bool} {row : List Value} {y : DataW H × List MemPlace} (hl : row.length = 5) (h : DataW.trod enc Try.prog w base (fun _ => true) hd fuel 31 row = some y) :
    ∃ x : Act13, row = [.int .i64 x.what, .int .i64 x.f, .int .i64 x.t, .int .i64 x.p.c, .int .i64 x.p.g] ∧ WPl x.p := by
  match row, hl with
  | [c0, c1, c2, c3, c4], _ =>
    obtain ⟨y0, y1, y2, y3, n, _, _, h0, h1, h2, h3⟩ := trod_struct4 Try.underlying31 h
    rw [Try.cellsInt13] at h0 h1 h2
    rw [Try.cellsPlace13] at h3
    have h0' : DataW.trod enc Try.prog w base (fun _ => true) hd n 3 [c0] = some y0 := h0
    have h1' : DataW.trod enc Try.prog w base (fun _ => true) hd n 3 [c1] = some y1 := h1
    have h2' : DataW.trod enc Try.prog w base (fun _ => true) hd n 3 [c2] = some y2 := h2
    have h3' : DataW.trod enc Try.prog w base (fun _ => true) hd n 29 [c3, c4] = some y3 := h3
    obtain ⟨a0, e0, _⟩ := DataW.trod_int Try.underlying3 h0'
    obtain ⟨a1, e1, _⟩ := DataW.trod_int Try.underlying3 h1'
    obtain ⟨a2, e2, _⟩ := DataW.trod_int Try.underlying3 h2'
    obtain ⟨x, e3, hx⟩ := place13_of rfl h3'
    simp only [List.cons.injEq, and_true] at e0 e1 e2 e3
    exact ⟨⟨a0, a1, a2, x⟩, by rw [e0, e1, e2, e3.1, e3.2], hx⟩
theorem acts13_of {H : Type} {enc : TypeId × Value → H} {w : World} {fuel l c base : Nat} {A : Option Addr} {x : DataW H × List MemPlace} {hd : Bool} (h : DataW.trod enc Try.prog w base (fun _ => true) hd fuel 22 [.slice A l c] = some x) :
    ∃ ps, Acts13 w (.slice A l c) ps ∧ ps.length = l ∧ l ≤ maxLen := by
  rcases open_slice Try.underlying22 h with ⟨hcs, _⟩ | ⟨a, len, cap, m, n, D, Pl, hcs, _, hl, hm, hmm, _, hrow⟩
  · simp only [List.cons.injEq, Value.slice.injEq, and_true] at hcs
    obtain ⟨rfl, rfl, rfl⟩ := hcs
    exact ⟨[], ⟨none, 0, 0, rfl, rfl, by simp [maxLen], fun h => absurd h (by omega)⟩, rfl, by simp [maxLen]⟩
  · simp only [List.cons.injEq, Value.slice.injEq, and_true] at hcs
    obtain ⟨rfl, rfl, rfl⟩ := hcs
    have hlm : l ≤ m := by rw [hmm]; split <;> omega
    rw [Try.cellsAct13] at hrow
    have hx : ∀ i, i < l → ∃ x : Act13, WPl x.p ∧ ∀ j (v : Value), [Value.int .i64 x.what, .int .i64 x.f, .int .i64 x.t, .int .i64 x.p.c, .int .i64 x.p.g][j]? = some v → w.cell? (a.add (i * 5 + j)) = some v := by
      intro i hi
      obtain ⟨row, hr, htr⟩ := hrow i (by omega)
      obtain ⟨_, hlen, hat⟩ := World.cells?_some hr
      obtain ⟨x, rfl, hwf⟩ := act13_of hlen htr
      refine ⟨x, hwf, fun j v hv => ?_⟩
      have hj : j < 5 := by simpa using (List.getElem?_eq_some_iff.1 hv).1
      rw [← add_add, hat j hj]
      exact hv
    by_cases h0 : l = 0
    · subst h0
      exact ⟨[], ⟨some a, 0, c, rfl, rfl, by simp [maxLen], fun h => absurd h (by omega)⟩, rfl, by omega⟩
    · obtain ⟨b, off, spot⟩ := a
      have hspot : spot = none := by
        obtain ⟨x, _, h⟩ := hx 0 (by omega)
        simpa [Addr.add] using World.cell?_spot (h 0 _ rfl)
      subst hspot
      have e2 : ∀ q, (Addr.mk b off none).add q = ⟨b, off + q, none⟩ := fun q => by unfold Addr.add; split <;> simp_all
      refine ⟨(List.range l).map (fun i => if hi : i < l then Classical.choose (hx i hi) else ⟨0, 0, 0, ⟨0, 0⟩⟩), ⟨_, l, c, rfl, by simp, by omega, fun _ => ⟨b, off, rfl, fun j x hj => ?_⟩⟩, by simp, by omega⟩
      have hjl : j < l := by
        have := (List.getElem?_eq_some_iff.1 hj).1
        simpa using this
      simp only [List.getElem?_map, List.getElem?_range hjl, Option.map_some, Option.some.injEq] at hj
      rw [dif_pos hjl] at hj
      have h := Classical.choose_spec (hx j hjl)
      rw [hj] at h
      obtain ⟨hwf, h⟩ := h
      have k0 := h 0 _ rfl
      have k1 := h 1 _ rfl
      have k2 := h 2 _ rfl
      have k3 := h 3 _ rfl
      have k4 := h 4 _ rfl
      rw [e2] at k0 k1 k2 k3 k4
      exact ⟨World.block_lt_of_cell? w _ k0, k0, by rw [← k1, Nat.add_assoc], by rw [← k2, Nat.add_assoc], by rw [← k3, Nat.add_assoc], by rw [← k4, Nat.add_assoc], hwf⟩
/-- As a row's proof asks for them. -/
def PlsW (w : World) (v : Value) (ps : List Pl) : Prop := Pls w w.heap.size v ps ∧ ∀ p ∈ ps, WPl p
theorem plsW_of {H : Type} {enc : TypeId × Value → H} {w : World} {fuel l c base : Nat} {A : Option Addr} {x : DataW H × List MemPlace} {hd : Bool} (h : DataW.trod enc Try.prog w base (fun _ => true) hd fuel 26 [.slice A l c] = some x) :
    ∃ ps, PlsW w (.slice A l c) ps ∧ ps.length = l ∧ l ≤ maxLen := by
  rcases open_slice Try.underlying26 h with ⟨hcs, _⟩ | ⟨a, len, cap, m, n, D, Pq, hcs, _, hl, hm, hmm, _, hrow⟩
  · simp only [List.cons.injEq, Value.slice.injEq, and_true] at hcs
    obtain ⟨rfl, rfl, rfl⟩ := hcs
    exact ⟨[], ⟨Pls.nil_ _ _, fun p h => absurd h List.not_mem_nil⟩, rfl, by simp [maxLen]⟩
  · simp only [List.cons.injEq, Value.slice.injEq, and_true] at hcs
    obtain ⟨rfl, rfl, rfl⟩ := hcs
    have hlm : l ≤ m := by rw [hmm]; split <;> omega
    rw [Try.cellsPlace13] at hrow
    have hx : ∀ i, i < l → ∃ x : Pl, WPl x ∧ ∀ j (v : Value), [Value.int .i64 x.c, .int .i64 x.g][j]? = some v → w.cell? (a.add (i * 2 + j)) = some v := by
      intro i hi
      obtain ⟨row, hr, htr⟩ := hrow i (by omega)
      obtain ⟨_, hlen, hat⟩ := World.cells?_some hr
      obtain ⟨x, rfl, hwf⟩ := place13_of hlen htr
      refine ⟨x, hwf, fun j v hv => ?_⟩
      have hj : j < 2 := by simpa using (List.getElem?_eq_some_iff.1 hv).1
      rw [← add_add, hat j hj]
      exact hv
    by_cases h0 : l = 0
    · subst h0
      exact ⟨[], ⟨⟨some a, 0, c, rfl, rfl, by omega, by omega, fun h => (by cases h), fun h => absurd h (by omega)⟩, fun p h => absurd h List.not_mem_nil⟩, rfl, by omega⟩
    · obtain ⟨b, off, spot⟩ := a
      have hspot : spot = none := by
        obtain ⟨x, _, h⟩ := hx 0 (by omega)
        simpa [Addr.add] using World.cell?_spot (h 0 _ rfl)
      subst hspot
      have e2 : ∀ q, (Addr.mk b off none).add q = ⟨b, off + q, none⟩ := fun q => by unfold Addr.add; split <;> simp_all
      have hget : ∀ j (hj : j < l), ((List.range l).map (fun i => if hi : i < l then Classical.choose (hx i hi) else pl0)).getD j pl0 = Classical.choose (hx j hj) := fun j hj => by
        rw [List.getD_eq_getElem?_getD, List.getElem?_map, List.getElem?_range hj]
        simp only [Option.map_some, Option.getD_some]
        rw [dif_pos hj]
      refine ⟨(List.range l).map (fun i => if hi : i < l then Classical.choose (hx i hi) else pl0), ⟨⟨_, l, c, rfl, by simp, by omega, by omega, fun h => (by cases h), fun _ => ⟨b, off, rfl, ?_, fun j hj => ?_⟩⟩, fun p hp => ?_⟩, by simp, by omega⟩
      · obtain ⟨_, h⟩ := Classical.choose_spec (hx 0 (by omega))
        have k0 := h 0 _ rfl
        rw [e2] at k0
        exact World.block_lt_of_cell? w _ k0
      · rw [hget j hj]
        obtain ⟨_, h⟩ := Classical.choose_spec (hx j hj)
        have k0 := h 0 _ rfl
        have k1 := h 1 _ rfl
        rw [e2] at k0 k1
        exact ⟨k0, by rw [← k1, Nat.add_assoc]⟩
      · obtain ⟨i, hi, rfl⟩ := List.mem_map.1 hp
        rw [dif_pos (List.mem_range.1 hi)]
        exact (Classical.choose_spec (hx i (List.mem_range.1 hi))).1
end Go.Proofs.Ytgbkpcmgfjdhdaa
