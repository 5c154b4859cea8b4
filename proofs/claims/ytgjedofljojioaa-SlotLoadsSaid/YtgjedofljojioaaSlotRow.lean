/-
  A slice of numbers and a slice of sectors that came in, as they lie in memory.
  Conditions: none beside those that each line bears.
-/
import Derived.Test.YtgjedofljojioaaSlotLoads
import Derived.Test.YtgjedofljojioaaSlRow
import Derived.Test.YtgjedofljojioaaStructRow
namespace Go.Proofs.Ytgjedofljojioaa
open Go.ChangeShapes Go.WideShapes Go.ChangeAt Go.RowKit Go.Deep
set_option linter.unusedVariables false

theorem u32s_of {H : Type} {enc : TypeId × Value → H} {w : World} {fuel l c base : Nat} {A : Option Addr} {x : DataW H × List MemPlace} {hd : Bool} (h : DataW.trod enc Try.prog w base (fun _ => true) hd fuel 22 [.slice A l c] = some x) :
    ∃ gs, U32s w (.slice A l c) gs ∧ gs.length = l ∧ l ≤ maxLen := by
  rcases open_ints Try.underlying22 Try.underlying30 (by kernel_rfl) h with ⟨hcs, _⟩ | ⟨a, len, cap, zs, hcs, _, hl, hm, hz, _, hcell, hwz⟩
  · simp only [List.cons.injEq, Value.slice.injEq, and_true] at hcs
    obtain ⟨rfl, rfl, rfl⟩ := hcs
    exact ⟨[], ⟨none, 0, 0, rfl, rfl, by simp [maxLen], fun h => absurd h (by omega)⟩, rfl, by simp [maxLen]⟩
  · simp only [List.cons.injEq, Value.slice.injEq, and_true] at hcs
    obtain ⟨rfl, rfl, rfl⟩ := hcs
    have hz' : zs.length = c := by simpa using hz
    have hlen : ((zs.take l).map Int.toNat).length = l := by simp; omega
    have hget : ∀ j, j < l → (((zs.take l).map Int.toNat).getD j 0 : Nat) = (zs.getD j 0).toNat ∧ 0 ≤ zs.getD j 0 ∧ zs.getD j 0 < 4294967296 := by
      intro j hj
      have hj' : j < zs.length := by omega
      have hw := bounds_u32 (hwz _ (List.getElem_mem hj'))
      refine ⟨by simp [hj, hj'], ?_⟩
      have e : zs.getD j 0 = zs[j] := by simp [hj']
      rw [e]
      omega
    refine ⟨(zs.take l).map Int.toNat, ⟨some a, l, c, rfl, hlen, Nat.le_trans hl hm, fun h0 => ?_⟩, hlen, Nat.le_trans hl hm⟩
    obtain ⟨b, off, spot⟩ := a
    have hc := hcell 0 (by omega)
    have hspot : spot = none := by simpa [Addr.add] using World.cell?_spot hc
    subst hspot
    refine ⟨b, off, rfl, ?_, fun j hj => ?_⟩
    · have := World.block_lt_of_cell? w _ hc
      simpa [Addr.add] using this
    · have hcj := hcell j (by omega)
      have e2 : (Addr.mk b off none).add j = ⟨b, off + j, none⟩ := by unfold Addr.add; split <;> simp_all
      rw [e2] at hcj
      obtain ⟨e, h1, h2⟩ := hget j hj
      refine ⟨?_, by omega⟩
      rw [hcj, e, Int.toNat_of_nonneg h1]

theorem Try.cellsPart : Try.prog.cellsOf 34 = 2 := by kernel_rfl
theorem parts_of {H : Type} {enc : TypeId × Value → H} {w : World} {fuel l c base : Nat} {A : Option Addr} {x : DataW H × List MemPlace} {hd : Bool} (h : DataW.trod enc Try.prog w base (fun _ => true) hd fuel 24 [.slice A l c] = some x) :
    ∃ ps, Parts5 w (.slice A l c) ps ∧ ps.length = l ∧ l ≤ maxLen := by
  have hlm : l ≤ maxLen := by
    rcases open_slice Try.underlying24 h with ⟨hcs, _⟩ | ⟨a, len, cap, m, n, D, Pl, hcs, _, hl, hm, _⟩
    · simp at hcs
      omega
    · simp at hcs
      omega
  by_cases hl : l = 0
  · subst hl
    exact ⟨[], ⟨A, 0, c, rfl, rfl, by simp [maxLen], fun h => absurd h (by omega)⟩, rfl, hlm⟩
  · rcases StructRow.of_trod Try.underlying24 Try.underlying34 (by kernel_rfl) Try.cellsPart (by decide) h (fun _ => .inl hl) with ⟨_, h0, _⟩ | ⟨b, off, rfl, hlc, hcm, hrow⟩
    · exact absurd h0 hl
    · have hx : ∀ i, i < l → ∃ x : PartD, PartAt w b (off + i * 2) x := by
        intro i hi
        obtain ⟨hb, hf⟩ := hrow i hi
        obtain ⟨v0, y0, k0, c0, r0⟩ := hf 0 _ rfl
        obtain ⟨v1, y1, k1, c1, r1⟩ := hf 1 _ rfl
        obtain ⟨n, h1, _, hw⟩ := DataW.trod_int Try.underlying3 r0
        simp only [List.cons.injEq, and_true] at h1
        subst h1
        have hbd := bounds_i64 hw
        obtain ⟨xs, d1⟩ := bytes_of r1
        exact ⟨⟨n, v1, xs⟩, hb, c0, c1, d1, hbd.1, hbd.2⟩
      refine ⟨(List.range l).map (fun i => if hi : i < l then Classical.choose (hx i hi) else ⟨0, .slice none 0 0, []⟩), ⟨_, l, c, rfl, by simp, hlm, fun _ => ⟨b, off, rfl, fun j x hj => ?_⟩⟩, by simp, hlm⟩
      have hjl : j < l := by
        have := (List.getElem?_eq_some_iff.1 hj).1
        simpa using this
      simp only [List.getElem?_map, List.getElem?_range hjl, Option.map_some, Option.some.injEq] at hj
      rw [dif_pos hjl] at hj
      rw [← hj]
      exact Classical.choose_spec (hx j hjl)
end Go.Proofs.Ytgjedofljojioaa
