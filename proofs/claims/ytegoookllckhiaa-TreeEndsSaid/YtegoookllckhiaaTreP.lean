/-
  How many tables pages take: numbers that differ, each once. Nothing of the program is named here.
  Conditions: none beside those that each line bears.
-/
import Derived.Test.YtegoookllckhiaaBas
namespace Go.Proofs.Ytegoookllckhiaa
open Go.RowKit
set_option linter.unusedVariables false

theorem snoc_ind {α : Type} {P : List α → Prop} (h0 : P []) (h1 : ∀ l x, P l → P (l ++ [x])) (l : List α) : P l := by
  have h : ∀ l : List α, P l.reverse := by
    intro l
    induction l with
    | nil => exact h0
    | cons x t ih => rw [List.reverse_cons]; exact h1 _ _ ih
  have := h l.reverse
  rwa [List.reverse_reverse] at this
/-- Each once, in the order in which they come first. -/
def distL (l : List Nat) : List Nat := l.foldl (fun s x => if x ∈ s then s else s ++ [x]) []
theorem distL_snoc (l : List Nat) (x : Nat) : distL (l ++ [x]) = if x ∈ distL l then distL l else distL l ++ [x] := by
  unfold distL
  rw [List.foldl_append]
  rfl
theorem distL_mem {l : List Nat} {x : Nat} : x ∈ distL l ↔ x ∈ l := by
  refine snoc_ind (P := fun l => x ∈ distL l ↔ x ∈ l) ?_ ?_ l
  · simp [distL]
  · intro l y ih
    rw [distL_snoc]
    split
    · rename_i h
      rw [List.mem_append, List.mem_singleton, ih]
      constructor
      · exact .inl
      · rintro (h1 | rfl)
        · exact h1
        · exact ih.1 h
    · rw [List.mem_append, List.mem_singleton, List.mem_append, List.mem_singleton, ih]
theorem distL_nodup (l : List Nat) : (distL l).Nodup := by
  refine snoc_ind (P := fun l => (distL l).Nodup) ?_ ?_ l
  · simp [distL]
  · intro l y ih
    rw [distL_snoc]
    split
    · exact ih
    · rename_i h
      rw [List.nodup_append]
      exact ⟨ih, by simp, fun a ha b hb => by rw [List.mem_singleton.1 hb]; exact fun e => h (e ▸ ha)⟩
theorem distL_le (l : List Nat) : (distL l).length ≤ l.length := by
  refine snoc_ind (P := fun l => (distL l).length ≤ l.length) ?_ ?_ l
  · simp [distL]
  · intro l y ih
    rw [distL_snoc]
    split
    · rw [List.length_append]; omega
    · rw [List.length_append, List.length_append]
      simp
      exact ih
/-- As many tables as pages with entries take. -/
def tablesN (pages : List Nat) : Nat := 1 + (distL (pages.map (· / 512))).length + (distL (pages.map (· / 64))).length + (distL (pages.map (· / 8))).length
/-- Of the same pages, in whatever order, just as many. -/
theorem distL_perm {l l' : List Nat} (h : ∀ x, x ∈ l ↔ x ∈ l') : (distL l).length = (distL l').length := by
  have hp : (distL l).Perm (distL l') := (List.perm_ext_iff_of_nodup (distL_nodup l) (distL_nodup l')).2 fun x => by rw [distL_mem, distL_mem]; exact h x
  exact hp.length_eq
theorem tablesN_same {l l' : List Nat} (h : ∀ x, x ∈ l ↔ x ∈ l') : tablesN l = tablesN l' := by
  unfold tablesN
  have hm : ∀ d : Nat, ∀ x, x ∈ l.map (· / d) ↔ x ∈ l'.map (· / d) := fun d x => by
    rw [List.mem_map, List.mem_map]
    exact ⟨fun ⟨a, h1, h2⟩ => ⟨a, (h a).1 h1, h2⟩, fun ⟨a, h1, h2⟩ => ⟨a, (h a).2 h1, h2⟩⟩
  rw [distL_perm (hm 512), distL_perm (hm 64), distL_perm (hm 8)]
end Go.Proofs.Ytegoookllckhiaa
