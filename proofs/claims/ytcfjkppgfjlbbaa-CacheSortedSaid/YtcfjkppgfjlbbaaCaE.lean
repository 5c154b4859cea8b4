/-
  The library's DeleteFunc over pages, with the closure of Keys.
  Conditions: those that each line bears.
-/
import Derived.Test.YtcfjkppgfjlbbaaCaD
import Derived.Lib.SliceRun
namespace Go.Proofs.Ytcfjkppgfjlbbaa
open Go.RowKit
set_option linter.unusedVariables false

/-- 'clear(s)' of elements of two cells each. -/
theorem run_clear_two {P : Program} (w : World) (t e ty : TypeId) (z1 z2 : Value) (ht : P.underlying t = some (.slice e)) (hv : ∀ w, (zeroValue e).run P w = .ok (.agg #[z1, z2]) w) (o1 : z1.oneCell' = true) (o2 : z2.oneCell' = true) (b o n c : Nat) (hn : 0 < n)
    (hc : ∀ j, j < n * 2 → (w.cell? ⟨b, o + j, none⟩).isSome = true) (hf : ∀ j, j < n * 2 → w.frozen? ⟨b, o + j, none⟩ = false) :
    ∃ L : List Value, L.length = n * 2 ∧ (Builtin.clear_ #[t] ty #[.slice (some ⟨b, o, none⟩) n c]).run P w = .ok (.tuple #[]) (w.setCells b o L) := by
  have hlen : (Builtin.zeroCells #[z1, z2] n).toList.length = n * 2 := by simp [Builtin.zeroCells]
  refine ⟨(Builtin.zeroCells #[z1, z2] n).toList, hlen, ?_⟩
  have hst := run_storeCells_cells (P := P) b o (Builtin.zeroCells #[z1, z2] n).toList 0 w (by rw [hlen]; simpa using hc) (by rw [hlen]; simpa using hf) (fun v hv' => by
    simp [Builtin.zeroCells] at hv'
    obtain ⟨i, _, rfl⟩ := hv'
    have : i % 2 = 0 ∨ i % 2 = 1 := by omega
    rcases this with h | h <;> rw [h] <;> simpa)
  simp only [Nat.add_zero] at hst
  obtain ⟨m, rfl⟩ : ∃ m, n = m + 1 := ⟨n - 1, by omega⟩
  simp [Builtin.clear_, run_underlying ht, hv, hst, Value.cells]
/-- The pages l, from place o on, stand in a block's cells. -/
def CellsK (cur : Array Value) (o : Nat) (l : List Pl) : Prop := ∀ j, j < l.length → cur[(o + j) * 2]? = some (.int .i64 (l.getD j pl0).c) ∧ cur[(o + j) * 2 + 1]? = some (.int .i64 (l.getD j pl0).g)
theorem CellsK.row {W : World} {g : Nat} {t : TypeId} {cur : Array Value} {o : Nat} {l : List Pl} (h : CellsK cur o l) (hb : Blk W g t cur) : RowAtK W g o l := fun j hj => by
  obtain ⟨h1, h2⟩ := h j hj
  exact ⟨(hb.cell _).trans h1, (hb.cell _).trans h2⟩
theorem CellsK.of_flat {cur : Array Value} {l : List Pl} (h : cur.toList.take (l.length * 2) = flatP l) : CellsK cur 0 l := fun j hj => by
  obtain ⟨h1, h2⟩ := flatP_at hj
  rw [← h, List.getElem?_take_of_lt (by omega), Array.getElem?_toList] at h1 h2
  rw [Nat.zero_add]
  exact ⟨h1, h2⟩
/-- The first ones are laid over by what is kept: one more. -/
theorem CellsK.put {cur : Array Value} {l : List Pl} {i : Nat} (h : CellsK cur 0 l) (hi : l.length = i) (hs : (i + 1) * 2 ≤ cur.size) (x : Pl) : CellsK ((cur.setIfInBounds (i * 2) (.int .i64 x.c)).setIfInBounds (i * 2 + 1) (.int .i64 x.g)) 0 (l ++ [x]) := fun j hj => by
  have hj' : j < i + 1 := by simpa [hi] using hj
  rw [Nat.zero_add]
  by_cases c : j = i
  · subst c
    have e : (l ++ [x]).getD j pl0 = x := by rw [List.getD_eq_getElem?_getD, List.getElem?_append_right (by omega), hi]; simp
    rw [e]
    refine ⟨?_, ?_⟩
    · rw [Array.getElem?_setIfInBounds, if_neg (by omega), Array.getElem?_setIfInBounds, if_pos rfl, if_pos (by omega)]
    · rw [Array.getElem?_setIfInBounds, if_pos rfl, if_pos (by simp; omega)]
  · obtain ⟨h1, h2⟩ := h j (by omega)
    rw [Nat.zero_add] at h1 h2
    have e : (l ++ [x]).getD j pl0 = l.getD j pl0 := by rw [List.getD_eq_getElem?_getD, List.getElem?_append_left (by omega), ← List.getD_eq_getElem?_getD]
    rw [e]
    refine ⟨?_, ?_⟩
    · rw [Array.getElem?_setIfInBounds, if_neg (by omega), Array.getElem?_setIfInBounds, if_neg (by omega), h1]
    · rw [Array.getElem?_setIfInBounds, if_neg (by omega), Array.getElem?_setIfInBounds, if_neg (by omega), h2]
/-- Those that are still to come lie as they did. -/
theorem CellsK.far {cur cur' : Array Value} {l : List Pl} {o : Nat} (h : CellsK cur o l) (hc : ∀ t, o * 2 ≤ t → cur'[t]? = cur[t]?) : CellsK cur' o l := fun j hj => by
  obtain ⟨h1, h2⟩ := h j hj
  exact ⟨(hc _ (by omega)).trans h1, (hc _ (by omega)).trans h2⟩
theorem CellsK.near {cur cur' : Array Value} {l : List Pl} (h : CellsK cur 0 l) (hc : ∀ t, t < l.length * 2 → cur'[t]? = cur[t]?) : CellsK cur' 0 l := fun j hj => by
  obtain ⟨h1, h2⟩ := h j hj
  exact ⟨(hc _ (by omega)).trans h1, (hc _ (by omega)).trans h2⟩
theorem CellsK.tail {cur : Array Value} {l : List Pl} {o : Nat} (h : CellsK cur o l) (k : Nat) : CellsK cur (o + k) (l.drop k) := fun j hj => by
  have hj' : j < l.length - k := by simpa using hj
  have e : (l.drop k).getD j pl0 = l.getD (k + j) pl0 := by rw [List.getD_eq_getElem?_getD, List.getElem?_drop, ← List.getD_eq_getElem?_getD]
  rw [e, show o + k + j = o + (k + j) by omega]
  exact h (k + j) (by omega)
def keepF (file : Int) (l : List Pl) : List Pl := l.filter fun x => !otherF file x
theorem keepF_snoc (file : Int) (l : List Pl) (x : Pl) : keepF file (l ++ [x]) = if otherF file x then keepF file l else keepF file l ++ [x] := by
  unfold keepF
  rw [List.filter_append]
  cases h : otherF file x <;> simp [h]
theorem keepF_all {file : Int} {l : List Pl} (h : ∀ x ∈ l, otherF file x = false) : keepF file l = l := List.filter_eq_self.2 fun x hx => by rw [h x hx]; rfl
theorem take_succ_getD {l : List Pl} {j : Nat} (h : j < l.length) : l.take (j + 1) = l.take j ++ [l.getD j pl0] := by
  rw [List.take_add_one, List.getElem?_eq_getElem h, List.getD_eq_getElem?_getD, List.getElem?_eq_getElem h]
  rfl
theorem take_keep {file : Int} {l : List Pl} {k : Nat} (hk : k < l.length) (h1 : ∀ j, j < k → otherF file (l.getD j pl0) = false) (h2 : otherF file (l.getD k pl0) = true) : keepF file (l.take (k + 1)) = l.take k := by
  rw [take_succ_getD hk, keepF_snoc, h2, if_pos rfl]
  refine keepF_all fun x hx => ?_
  obtain ⟨j, hj, rfl⟩ := List.getElem_of_mem hx
  have hj' : j < k := by simp at hj; omega
  have := h1 j hj'
  rw [List.getD_eq_getElem?_getD, List.getElem?_eq_getElem (by omega)] at this
  rw [List.getElem_take]
  exact this
/-- A round of the loop: what is kept lies first, what is still to come where it lay. -/
structure DelAt (g : Nat) (l : List Pl) (file : Int) (cap bx : Nat) (B : Nat) (w : World) (i j : Nat) (W : World) : Prop where
  len : (keepF file (l.take j)).length = i
  lt : i < j
  bel : Below B w W
  row : ∃ cur, Blk W g 30 cur ∧ cur.size = cap * 2 ∧ CellsK cur 0 (keepF file (l.take j)) ∧ CellsK cur j (l.drop j)
  box : W.cell? ⟨bx, 0, none⟩ = some (.int .i64 file)
  boxlt : bx < W.heap.size
end Go.Proofs.Ytcfjkppgfjlbbaa
