/-
  The statements' own record of files' bytes: a block of bytes behind two lists.
  Conditions: those that each line bears.
-/
import Derived.Test.YtgjkdnpidobabaaGreatQc04
import Derived.Test.YtgjkdnpidobabaaGreatQc00
import Derived.Test.YtgjkdnpidobabaaGreatProg
import Derived.KernelRfl
set_option linter.unusedSimpArgs false
set_option linter.unusedSectionVars false
set_option linter.unusedVariables false
namespace Go.Proofs.YtgjkdnpidobabaaGreat
open Go.RowKit
set_option linter.unusedVariables false

def WldAt (w : World) (g : Nat) (F : Nat → Nat) : Prop := ∃ cur, Blk w g 73 cur ∧ cur.size = 8194 ∧ ∀ j, j < 8192 → cur[j + 2]? = some (bv (F j)) ∧ F j < 256
section
variable {w w' : World} {g : Nat} {F : Nat → Nat}
theorem WldAt.lt (h : WldAt w g F) : g < w.heap.size := by
  obtain ⟨cur, h1, _⟩ := h
  exact h1.lt
theorem WldAt.far (h : WldAt w g F) (hF : w'.heap[g]? = w.heap[g]?) : WldAt w' g F := by
  obtain ⟨cur, h1, h2⟩ := h
  exact ⟨cur, hF.trans h1, h2⟩
theorem WldAt.below (h : WldAt w g F) {B : Nat} (hb : Below B w w') (hF : g < B) : WldAt w' g F := h.far (hb.block _ hF)
theorem WldAt.at_ (h : WldAt w g F) {j : Nat} (hj : j < 8192) : w.cell? ⟨g, j + 2, none⟩ = some (bv (F j)) := by
  obtain ⟨cur, h1, _, h2⟩ := h
  rw [h1.cell, (h2 j hj).1]
theorem WldAt.fz (h : WldAt w g F) (j : Nat) : w.frozen? ⟨g, j, none⟩ = false := by
  obtain ⟨cur, h1, _⟩ := h
  exact h1.frozen j
theorem WldAt.set_ (h : WldAt w g F) {j y : Nat} (hj : j < 8192) (hy : y < 256) : WldAt (w.setCell ⟨g, j + 2, none⟩ (.int .u8 (y : Int))) g (upd F j y) := by
  obtain ⟨cur, h1, h2, h3⟩ := h
  refine ⟨_, h1.set_ (j + 2) _, by simp [h2], fun k hk => ?_⟩
  by_cases e : k = j
  · subst e
    rw [upd_same]
    refine ⟨?_, hy⟩
    rw [Array.getElem?_setIfInBounds_self_of_lt (by omega)]
    rfl
  · rw [upd_other _ _ _ e, Array.getElem?_setIfInBounds_ne (by omega)]
    exact h3 k hk
def rowF (F : Nat → Nat) (a : Nat) : List Nat := (List.range 64).map fun j => F (a + j)
theorem rowF_length (F : Nat → Nat) (a : Nat) : (rowF F a).length = 64 := by simp [rowF]
theorem rowF_at (F : Nat → Nat) (a j : Nat) (h : j < 64) : (rowF F a).getD j 0 = F (a + j) := by simp [rowF, h]
theorem WldAt.byte (h : WldAt w g F) {a : Nat} (ha : a + 64 ≤ 8192) : ∀ y ∈ rowF F a, y < 256 := by
  obtain ⟨cur, _, _, h3⟩ := h
  intro y hy
  obtain ⟨j, hj, rfl⟩ := List.mem_map.1 hy
  exact (h3 _ (by have := List.mem_range.1 hj; omega)).2
theorem WldAt.range_ (h : WldAt w g F) {a b : Nat} (ha : a + 64 ≤ 8192) (hb : b = a + 2) : w.rangeAt g b ((rowF F a).map bv) := by
  subst hb
  intro j v hv
  have hj : j < 64 := by
    have := (List.getElem?_eq_some_iff.1 hv).1
    simpa [rowF] using this
  rw [show a + 2 + j = a + j + 2 by omega, h.at_ (by omega)]
  simp [rowF, hj] at hv ⊢
  exact hv
theorem WldAt.there_ (h : WldAt w g F) {a b : Nat} (ha : a + 64 ≤ 8192) (hb : b = a + 2) : w.there g b 64 := by
  subst hb
  intro j hj
  exact ⟨by rw [show a + 2 + j = a + j + 2 by omega, h.at_ (by omega)]; rfl, h.fz _⟩
theorem WldAt.cells (h : WldAt w g F) {a b : Nat} (ha : a + 64 ≤ 8192) (hb : b = a + 2) {ys : List Nat} (hl : ys.length = 64) (hy : ∀ y ∈ ys, y < 256) : ∃ F', WldAt (w.setCells g b (ys.map bv)) g F' := by
  subst hb
  obtain ⟨cur, h1, h2, h3⟩ := h
  obtain ⟨cur', k1, k2, k3⟩ := Blk.setCells (ys.map bv) (a + 2) h1 (by simp; omega)
  refine ⟨fun j => if a ≤ j ∧ j < a + 64 then ys.getD (j - a) 0 else F j, cur', k1, by omega, fun j hj => ?_⟩
  rw [k3]
  by_cases c : a ≤ j ∧ j < a + 64
  · have hj' : j - a < ys.length := by omega
    simp only [List.length_map]
    rw [if_pos (by omega), if_pos c, show j + 2 - (a + 2) = j - a by omega]
    refine ⟨by simp [hj'], ?_⟩
    rw [List.getD_eq_getElem?_getD, List.getElem?_eq_getElem hj']
    exact hy _ (List.getElem_mem _)
  · simp only [List.length_map]
    rw [if_neg (by omega), if_neg c]
    exact h3 j hj
theorem WldAt.bts (h : WldAt w g F) {a b : Nat} (ha : a + 64 ≤ 8192) (hb : b = a + 2) : Bts w (g + 1) (.slice (some ⟨g, b, none⟩) 64 64) (rowF F a) := by
  subst hb
  refine ⟨some ⟨g, a + 2, none⟩, 64, 64, rfl, rowF_length _ _, by unfold maxLen; omega, ⟨Nat.le_refl _, fun e => by cases e⟩, by unfold maxLen; omega, fun j hj => ?_, fun _ => ⟨g, a + 2, rfl, Nat.lt_succ_self _, fun j hj => ?_⟩⟩
  · exact h.byte ha _ (by rw [List.getD_eq_getElem?_getD, List.getElem?_eq_getElem (by rw [rowF_length]; exact hj)]; exact List.getElem_mem _)
  · rw [show a + 2 + j = a + j + 2 by omega, h.at_ (by omega), rowF_at F a j hj]
    rfl
end
def isZ8' : Value → Bool
  | .int .u8 n => n == 0
  | _ => false
theorem isZ8'_eq {v : Value} (h : isZ8' v = true) : v = .int .u8 0 := by
  unfold isZ8' at h
  split at h
  · simp at h; rw [h]
  · cases h
theorem Tryz.zeroWld : (Tryz.prog.info? 73).map (fun i => i.zero.map (fun z => z.cells.size == 8194 && (z.cells.toList.drop 2).all isZ8')) = some (some true) := by kernel_rfl
theorem zero_wld : ∃ Z : Array Value, (Z.size = 8194 ∧ ∀ j, j < 8192 → Z[j + 2]? = some (.int .u8 0)) ∧ ∀ w, (zeroValue 73).run Tryz.prog w = .ok (.agg Z) w := by
  have h := Tryz.zeroWld
  cases hq : Tryz.prog.info? 73 with
  | none => rw [hq] at h; cases h
  | some i =>
    rw [hq] at h
    simp only [Option.map_some, Option.some.injEq] at h
    obtain ⟨z, hz, hzc⟩ := Option.map_eq_some_iff.1 h
    rw [Bool.and_eq_true, beq_iff_eq] at hzc
    obtain ⟨hs, ha⟩ := hzc
    refine ⟨z.cells, ⟨hs, fun j hj => ?_⟩, fun w => ?_⟩
    · have e1 : z.cells[j + 2]? = (z.cells.toList.drop 2)[j]? := by rw [List.getElem?_drop, Array.getElem?_toList, Nat.add_comm]
      have hlt : j < (z.cells.toList.drop 2).length := by rw [List.length_drop, Array.length_toList]; omega
      rw [e1, List.getElem?_eq_getElem hlt]
      rw [isZ8'_eq (List.all_eq_true.1 ha _ (List.getElem_mem hlt))]
    · have e : z = .agg z.cells := by
        cases z
        case agg cs => rfl
        all_goals exact absurd hs (by simp [Value.cells])
      rw [e] at hz
      simp [zeroValue, typeInfo, hq, hz]
end Go.Proofs.YtgjkdnpidobabaaGreat

