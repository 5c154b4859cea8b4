/-
  The acts of layer 12's statements that came in: a page, and an entry within.
  Conditions: none.
-/
import Derived.Test.YtegoookllckhiaaTreAct
import Derived.Test.YtegoookllckhiaaSlRow
import Derived.Lib.SmallJoins
namespace Go.Proofs.Ytegoookllckhiaa
open Go.ChangeShapes Go.WideShapes Go.ChangeAt Go.RowKit Go.Deep
set_option linter.unusedVariables false

theorem Try.cellsAct12 : Try.prog.cellsOf 38 = 4 := by kernel_rfl
theorem Try.cellsEnt12 : Try.prog.cellsOf 35 = 3 := by kernel_rfl
theorem Try.cellsInt12 : Try.prog.cellsOf 3 = 1 := by kernel_rfl
theorem Try.cellsBool12 : Try.prog.cellsOf 4 = 1 := by kernel_rfl
theorem act12_of {H : Type} {enc : TypeId × Value → H} {w : World} {base fuel : Nat} {hd : Bool} {row : List Value} {y : DataW H × List MemPlace} (hl : row.length = 4) (h : DataW.trod enc Try.prog w base (fun _ => true) hd fuel 38 row = some y) :
    ∃ x : Act12, row = [.int .i64 x.page, .int .i64 x.k, .int .i64 x.n, .bool x.w] := by
  match row, hl with
  | [c0, c1, c2, c3], _ =>
    obtain ⟨y0, y1, n, _, _, h0, h1⟩ := trod_struct2 Try.underlying38 h
    rw [Try.cellsInt12] at h0
    rw [Try.cellsEnt12] at h1
    have h0' : DataW.trod enc Try.prog w base (fun _ => true) hd n 3 [c0] = some y0 := h0
    have h1' : DataW.trod enc Try.prog w base (fun _ => true) hd n 35 [c1, c2, c3] = some y1 := h1
    obtain ⟨z0, z1, z2, m, _, _, k0, k1, k2⟩ := trod_struct3 Try.underlying35 h1'
    rw [Try.cellsInt12] at k0 k1
    rw [Try.cellsBool12] at k2
    have k0' : DataW.trod enc Try.prog w base (fun _ => true) hd m 3 [c1] = some z0 := k0
    have k1' : DataW.trod enc Try.prog w base (fun _ => true) hd m 3 [c2] = some z1 := k1
    have k2' : DataW.trod enc Try.prog w base (fun _ => true) hd m 4 [c3] = some z2 := k2
    obtain ⟨a0, e0, _⟩ := DataW.trod_int Try.underlying3 h0'
    obtain ⟨a1, e1, _⟩ := DataW.trod_int Try.underlying3 k0'
    obtain ⟨a2, e2, _⟩ := DataW.trod_int Try.underlying3 k1'
    obtain ⟨a3, e3, _⟩ := DataW.trod_bool Try.underlying4 k2'
    simp only [List.cons.injEq, and_true] at e0 e1 e2 e3
    exact ⟨⟨a0, a1, a2, a3⟩, by rw [e0, e1, e2, e3]⟩
theorem acts12_of {H : Type} {enc : TypeId × Value → H} {w : World} {fuel l c base : Nat} {A : Option Addr} {x : DataW H × List MemPlace} {hd : Bool} (h : DataW.trod enc Try.prog w base (fun _ => true) hd fuel 22 [.slice A l c] = some x) :
    ∃ ps, Acts12 w (.slice A l c) ps ∧ ps.length = l ∧ l ≤ maxLen := by
  rcases open_slice Try.underlying22 h with ⟨hcs, _⟩ | ⟨a, len, cap, m, n, D, Pl, hcs, _, hl, hm, hmm, _, hrow⟩
  · simp only [List.cons.injEq, Value.slice.injEq, and_true] at hcs
    obtain ⟨rfl, rfl, rfl⟩ := hcs
    exact ⟨[], ⟨none, 0, 0, rfl, rfl, by simp [maxLen], fun h => absurd h (by omega)⟩, rfl, by simp [maxLen]⟩
  · simp only [List.cons.injEq, Value.slice.injEq, and_true] at hcs
    obtain ⟨rfl, rfl, rfl⟩ := hcs
    have hlm : l ≤ m := by rw [hmm]; split <;> omega
    rw [Try.cellsAct12] at hrow
    have hx : ∀ i, i < l → ∃ x : Act12, ∀ j (v : Value), [Value.int .i64 x.page, .int .i64 x.k, .int .i64 x.n, .bool x.w][j]? = some v → w.cell? (a.add (i * 4 + j)) = some v := by
      intro i hi
      obtain ⟨row, hr, htr⟩ := hrow i (by omega)
      obtain ⟨_, hlen, hat⟩ := World.cells?_some hr
      obtain ⟨x, rfl⟩ := act12_of hlen htr
      refine ⟨x, fun j v hv => ?_⟩
      have hj : j < 4 := by simpa using (List.getElem?_eq_some_iff.1 hv).1
      rw [← add_add, hat j hj]
      exact hv
    by_cases h0 : l = 0
    · subst h0
      exact ⟨[], ⟨some a, 0, c, rfl, rfl, by simp [maxLen], fun h => absurd h (by omega)⟩, rfl, by omega⟩
    · obtain ⟨b, off, spot⟩ := a
      have hspot : spot = none := by
        obtain ⟨x, h⟩ := hx 0 (by omega)
        simpa [Addr.add] using World.cell?_spot (h 0 _ rfl)
      subst hspot
      have e2 : ∀ q, (Addr.mk b off none).add q = ⟨b, off + q, none⟩ := fun q => by unfold Addr.add; split <;> simp_all
      refine ⟨(List.range l).map (fun i => if hi : i < l then Classical.choose (hx i hi) else ⟨0, 0, 0, false⟩), ⟨_, l, c, rfl, by simp, by omega, fun _ => ⟨b, off, rfl, fun j x hj => ?_⟩⟩, by simp, by omega⟩
      have hjl : j < l := by
        have := (List.getElem?_eq_some_iff.1 hj).1
        simpa using this
      simp only [List.getElem?_map, List.getElem?_range hjl, Option.map_some, Option.some.injEq] at hj
      rw [dif_pos hjl] at hj
      have h := Classical.choose_spec (hx j hjl)
      rw [hj] at h
      have k0 := h 0 _ rfl
      have k1 := h 1 _ rfl
      have k2 := h 2 _ rfl
      have k3 := h 3 _ rfl
      rw [e2] at k0 k1 k2 k3
      exact ⟨World.block_lt_of_cell? w _ k0, k0, by rw [← k1, Nat.add_assoc], by rw [← k2, Nat.add_assoc], by rw [← k3, Nat.add_assoc]⟩
end Go.Proofs.Ytegoookllckhiaa
