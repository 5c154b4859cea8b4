/-
  Slices of structs that came in, and structs by value: opened once for all structs. Nothing of the program is named here.
  Conditions: none beside those that each line bears.
-/
import Derived.Test.YtkdniihnilcpfaaBas
import Derived.Lib.SmallJoins
import Derived.OpenShut
namespace Go.Proofs.Ytkdniihnilcpfaa
open Go.ChangeShapes Go.WideShapes Go.ChangeAt Go.RowKit Go.Deep Go.Joins
set_option linter.unusedVariables false
section
variable {H : Type} {enc : TypeId × Value → H} {P : Program} {w : World} {base : Nat} {spare : Nat → Bool} {held : Bool}
theorem trod_struct5 {t : TypeId} {f0 f1 f2 f3 f4 : Field} {fuel : Nat} {cs : List Value} {x : DataW H × List MemPlace} (ht : P.underlying t = some (.struct #[f0, f1, f2, f3, f4])) (h : DataW.trod enc P w base spare held fuel t cs = some x) :
    ∃ y0 y1 y2 y3 y4 n, cs.length = P.cellsOf t ∧ DataW.trod enc P w base spare held n f0.type ((cs.drop f0.offset).take (P.cellsOf f0.type)) = some y0 ∧
      DataW.trod enc P w base spare held n f1.type ((cs.drop f1.offset).take (P.cellsOf f1.type)) = some y1 ∧ DataW.trod enc P w base spare held n f2.type ((cs.drop f2.offset).take (P.cellsOf f2.type)) = some y2 ∧
      DataW.trod enc P w base spare held n f3.type ((cs.drop f3.offset).take (P.cellsOf f3.type)) = some y3 ∧ DataW.trod enc P w base spare held n f4.type ((cs.drop f4.offset).take (P.cellsOf f4.type)) = some y4 := by
  obtain ⟨xs, n, _, rfl, hl, hlen, hf⟩ := DataW.trod_struct ht h
  match xs, hlen with
  | [y0, y1, y2, y3, y4], _ => exact ⟨y0, y1, y2, y3, y4, n, hl, by simpa using hf 0 f0 rfl, by simpa using hf 1 f1 rfl, by simpa using hf 2 f2 rfl, by simpa using hf 3 f3 rfl, by simpa using hf 4 f4 rfl⟩
theorem trod_struct6 {t : TypeId} {f0 f1 f2 f3 f4 f5 : Field} {fuel : Nat} {cs : List Value} {x : DataW H × List MemPlace} (ht : P.underlying t = some (.struct #[f0, f1, f2, f3, f4, f5])) (h : DataW.trod enc P w base spare held fuel t cs = some x) :
    ∃ y0 y1 y2 y3 y4 y5 n, cs.length = P.cellsOf t ∧ DataW.trod enc P w base spare held n f0.type ((cs.drop f0.offset).take (P.cellsOf f0.type)) = some y0 ∧
      DataW.trod enc P w base spare held n f1.type ((cs.drop f1.offset).take (P.cellsOf f1.type)) = some y1 ∧ DataW.trod enc P w base spare held n f2.type ((cs.drop f2.offset).take (P.cellsOf f2.type)) = some y2 ∧
      DataW.trod enc P w base spare held n f3.type ((cs.drop f3.offset).take (P.cellsOf f3.type)) = some y3 ∧ DataW.trod enc P w base spare held n f4.type ((cs.drop f4.offset).take (P.cellsOf f4.type)) = some y4 ∧
      DataW.trod enc P w base spare held n f5.type ((cs.drop f5.offset).take (P.cellsOf f5.type)) = some y5 := by
  obtain ⟨xs, n, _, rfl, hl, hlen, hf⟩ := DataW.trod_struct ht h
  match xs, hlen with
  | [y0, y1, y2, y3, y4, y5], _ => exact ⟨y0, y1, y2, y3, y4, y5, n, hl, by simpa using hf 0 f0 rfl, by simpa using hf 1 f1 rfl, by simpa using hf 2 f2 rfl, by simpa using hf 3 f3 rfl, by simpa using hf 4 f4 rfl, by simpa using hf 5 f5 rfl⟩
/-- A slice of structs of k cells each, as it lies in memory: f has the cells of one, Wf is known of each. -/
def Gs {α : Type} (f : α → List Value) (k : Nat) (w : World) (B : Nat) (v : Value) (ps : List α) : Prop :=
  ∃ A n c, v = .slice A n c ∧ ps.length = n ∧ n ≤ c ∧ c ≤ maxLen ∧ (0 < c → ∃ b o, A = some ⟨b, o, none⟩) ∧ (0 < n → ∃ b o, A = some ⟨b, o, none⟩ ∧ b < B ∧ ∀ j p, ps[j]? = some p → ∀ i u, (f p)[i]? = some u → w.cell? ⟨b, o + j * k + i, none⟩ = some u)
theorem gs_of {α : Type} (f : α → List Value) (k : Nat) (Wf : α → Prop) (hk : 0 < k) (hfk : ∀ x, (f x).length = k) (d : α) {T E : TypeId} (hT : P.underlying T = some (.slice E)) (hE : P.cellsOf E = k)
    (helem : ∀ {row : List Value} {y : DataW H × List MemPlace} {fuel : Nat}, row.length = k → DataW.trod enc P w base (fun _ => true) held fuel E row = some y → ∃ x, row = f x ∧ Wf x)
    {fuel l c : Nat} {A : Option Addr} {x : DataW H × List MemPlace} (h : DataW.trod enc P w base (fun _ => true) held fuel T [.slice A l c] = some x) :
    ∃ ps : List α, (Gs f k w w.heap.size (.slice A l c) ps ∧ ∀ p ∈ ps, Wf p) ∧ ps.length = l ∧ l ≤ maxLen := by
  rcases open_slice hT h with ⟨hcs, _⟩ | ⟨a, len, cap, m, n, D, Pl, hcs, _, hl, hm, hmm, _, hrow⟩
  · simp only [List.cons.injEq, Value.slice.injEq, and_true] at hcs
    obtain ⟨rfl, rfl, rfl⟩ := hcs
    exact ⟨[], ⟨⟨none, 0, 0, rfl, rfl, Nat.le_refl _, by simp [maxLen], fun h => absurd h (by omega), fun h => absurd h (by omega)⟩, fun p h => absurd h List.not_mem_nil⟩, rfl, by simp [maxLen]⟩
  · simp only [List.cons.injEq, Value.slice.injEq, and_true] at hcs
    obtain ⟨rfl, rfl, rfl⟩ := hcs
    have hlm : m = c := by rw [hmm]; simp
    rw [hE] at hrow
    have hx : ∀ i, i < c → ∃ x : α, Wf x ∧ ∀ j (v : Value), (f x)[j]? = some v → w.cell? (a.add (i * k + j)) = some v := by
      intro i hi
      obtain ⟨row, hr, htr⟩ := hrow i (by omega)
      obtain ⟨_, hlen, hat⟩ := World.cells?_some hr
      obtain ⟨x, rfl, hwf⟩ := helem hlen htr
      refine ⟨x, hwf, fun j v hv => ?_⟩
      have hj : j < k := by have := (List.getElem?_eq_some_iff.1 hv).1; rwa [hfk] at this
      rw [← add_add, hat j hj]
      exact hv
    by_cases hc0 : c = 0
    · obtain rfl : l = 0 := by omega
      exact ⟨[], ⟨⟨some a, 0, c, rfl, rfl, by omega, by omega, fun h => absurd h (by omega), fun h => absurd h (by omega)⟩, fun p h => absurd h List.not_mem_nil⟩, rfl, by omega⟩
    · obtain ⟨b, off, spot⟩ := a
      have h00 : ∀ x : α, ∃ u, (f x)[0]? = some u := fun x => ⟨_, List.getElem?_eq_getElem (by rw [hfk]; exact hk)⟩
      have hspot : spot = none := by
        obtain ⟨x, _, h⟩ := hx 0 (by omega)
        obtain ⟨u, hu⟩ := h00 x
        simpa [Addr.add] using World.cell?_spot (h 0 _ hu)
      subst hspot
      have e2 : ∀ q, (Addr.mk b off none).add q = ⟨b, off + q, none⟩ := fun q => by unfold Addr.add; split <;> simp_all
      have hget : ∀ j (hj : j < l) p, ((List.range l).map (fun i => if hi : i < l then Classical.choose (hx i (by omega)) else d))[j]? = some p → p = Classical.choose (hx j (by omega)) := fun j hj p hp => by
        rw [List.getElem?_map, List.getElem?_range hj] at hp
        simp only [Option.map_some, Option.some.injEq] at hp
        rw [dif_pos hj] at hp
        exact hp.symm
      refine ⟨(List.range l).map (fun i => if hi : i < l then Classical.choose (hx i (by omega)) else d), ⟨⟨_, l, c, rfl, by simp, by omega, by omega, fun _ => ⟨b, off, rfl⟩, fun _ => ⟨b, off, rfl, ?_, fun j p hj i u hu => ?_⟩⟩, fun p hp => ?_⟩, by simp, by omega⟩
      · obtain ⟨_, h⟩ := Classical.choose_spec (hx 0 (by omega))
        obtain ⟨u, hu⟩ := h00 (Classical.choose (hx 0 (by omega)))
        have k0 := h 0 _ hu
        rw [e2] at k0
        exact World.block_lt_of_cell? w _ k0
      · have hjl : j < l := by
          have := (List.getElem?_eq_some_iff.1 hj).1
          simpa using this
        have hp := hget j hjl p hj
        subst hp
        obtain ⟨_, h⟩ := Classical.choose_spec (hx j (by omega))
        have k0 := h i _ hu
        rw [e2] at k0
        rw [Nat.add_assoc]
        exact k0
      · obtain ⟨i, hi, rfl⟩ := List.mem_map.1 hp
        rw [dif_pos (List.mem_range.1 hi)]
        exact (Classical.choose_spec (hx i (by have := List.mem_range.1 hi; omega))).1
/-- A struct by value. -/
theorem aggG_of {α : Type} (f : α → List Value) (k : Nat) (Wf : α → Prop) {t : TypeId} {fs : Array Field} (hs : P.underlying t = some (.struct fs)) (hC : P.cellsOf t = k)
    (helem : ∀ {row : List Value} {y : DataW H × List MemPlace} {fuel : Nat}, row.length = k → DataW.trod enc P w base (fun _ => true) held fuel t row = some y → ∃ x, row = f x ∧ Wf x)
    {r : Reach} {b0 : Nat} {v : Value} {d : DataW H} {p : List MemPlace} (hv : Value.okWide P w r b0 t v) (h : DataW.Trod enc P w base (fun _ => true) held t v d p) :
    ∃ x : {x : α // Wf x}, v = .agg (f x.1).toArray := by
  obtain ⟨cs, rfl, hsz⟩ := okWide_struct hs hv
  obtain ⟨fuel, hf⟩ := h
  have hf' : DataW.trod enc P w base (fun _ => true) held fuel t cs.toList = some (d, p) := by simpa [Value.cells] using hf
  obtain ⟨x, e, hx⟩ := helem (by rw [Array.length_toList]; exact hsz.trans hC) hf'
  exact ⟨⟨x, hx⟩, by rw [← e, Array.toArray_toList]⟩
end
section
variable {α : Type} {f : α → List Value} {k : Nat} {w w' : World} {B B' : Nat} {v : Value} {ps : List α}
theorem Gs.keep (h : Gs f k w B v ps) (hk : ∀ p : Addr, p.block < B → w'.cell? p = w.cell? p) : Gs f k w' B v ps := by
  obtain ⟨A, n, c, h1, h2, h3, h4, h5, h7⟩ := h
  refine ⟨A, n, c, h1, h2, h3, h4, h5, fun h0 => ?_⟩
  obtain ⟨b, o, e, hb, hc⟩ := h7 h0
  exact ⟨b, o, e, hb, fun j p hj i u hu => (hk _ hb).trans (hc j p hj i u hu)⟩
theorem Gs.below (h : Gs f k w B v ps) (hb : Below B w w') : Gs f k w' B v ps := h.keep fun _ hp => hb.cell hp
theorem Gs.more (h : Gs f k w B v ps) (hB : B ≤ B') : Gs f k w B' v ps := by
  obtain ⟨A, n, c, h1, h2, h3, h4, h5, h7⟩ := h
  refine ⟨A, n, c, h1, h2, h3, h4, h5, fun h0 => ?_⟩
  obtain ⟨b, o, e, hb, hc⟩ := h7 h0
  exact ⟨b, o, e, by omega, hc⟩
theorem Gs.fresh (h : Gs f k w w.heap.size v ps) (hb : Below w.heap.size w w') : Gs f k w' w'.heap.size v ps := (h.below hb).more hb.size
theorem Gs.nil_ (w : World) (B : Nat) : Gs f k w B (.slice none 0 0) [] := ⟨none, 0, 0, rfl, rfl, Nat.le_refl _, by simp [maxLen], fun h => absurd h (Nat.lt_irrefl _), fun h => absurd h (Nat.lt_irrefl _)⟩
end
end Go.Proofs.Ytkdniihnilcpfaa
