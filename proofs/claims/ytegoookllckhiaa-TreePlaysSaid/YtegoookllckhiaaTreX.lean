/-
  What TreePlays asks besides: pages of which one more makes no fewer tables; a call's own row that can be read later.
  Conditions: none beside those that each line bears.
-/
import Derived.Test.YtegoookllckhiaaTreV
import Derived.Test.YtegoookllckhiaaApp
namespace Go.Proofs.Ytegoookllckhiaa
open Go.RowKit
set_option linter.unusedVariables false

theorem nodup_sub {α : Type} [DecidableEq α] : ∀ {l l' : List α}, l.Nodup → (∀ x, x ∈ l → x ∈ l') → l.length ≤ l'.length
  | [], _, _, _ => Nat.zero_le _
  | a :: l, l', hn, hs => by
    obtain ⟨h1, h2⟩ := List.nodup_cons.1 hn
    have hm : a ∈ l' := hs a List.mem_cons_self
    have h3 : l.length ≤ (l'.erase a).length := nodup_sub h2 fun x hx => by
      have hne : x ≠ a := fun e => h1 (e ▸ hx)
      exact (List.mem_erase_of_ne hne).2 (hs x (List.mem_cons_of_mem _ hx))
    have h4 := List.length_erase_of_mem hm
    have h5 : 0 < l'.length := List.length_pos_of_mem hm
    rw [List.length_cons]
    omega
theorem distL_sub {l l' : List Nat} (h : ∀ x, x ∈ l → x ∈ l') : (distL l).length ≤ (distL l').length :=
  nodup_sub (distL_nodup l) fun x hx => distL_mem.2 (h x (distL_mem.1 hx))
theorem tablesN_sub {l l' : List Nat} (h : ∀ x, x ∈ l → x ∈ l') : tablesN l ≤ tablesN l' := by
  unfold tablesN
  have hm : ∀ d : Nat, ∀ x, x ∈ l.map (· / d) → x ∈ l'.map (· / d) := fun d x hx => by
    obtain ⟨a, h1, h2⟩ := List.mem_map.1 hx
    exact List.mem_map.2 ⟨a, h a h1, h2⟩
  have h1 := distL_sub (hm 512)
  have h2 := distL_sub (hm 64)
  have h3 := distL_sub (hm 8)
  omega
theorem full_tables (e : List En) (p : Nat) (x : En) : tablesN (pagesOf (e.set p x)) ≤ tablesN (pagesOf e ++ [p]) := tablesN_sub fun q hq => by
  obtain ⟨h1, h2⟩ := pagesOf_mem.1 hq
  by_cases c : q = p
  · exact List.mem_append_right _ (by rw [c]; exact List.mem_cons_self)
  · rw [getD_set_ne _ _ _ _ _ c] at h2
    exact List.mem_append_left _ (pagesOf_mem.2 ⟨h1, h2⟩)
theorem Rd.own_below {w W : World} {base size n : Nat} {e : TypeId} {v : Value} {xs : List Value} (h : w.ownsRow base e size v n xs) (h1 : ∀ u ∈ xs, u.oneCell' = true) (hb : Below w.heap.size w W) : Rd W size v n xs := by
  rcases h.2 with ⟨rfl, rfl⟩ | ⟨g, cap, cur, rfl, _⟩
  · exact ⟨none, 0, rfl, h.1, h1, fun h => absurd h (Nat.lt_irrefl _)⟩
  · exact ⟨some ⟨g, 0, none⟩, cap, rfl, h.1, h1, fun _ => ⟨g, 0, rfl, fun j u hj => by
      have hc := h.cells (g := g) rfl j u hj
      rw [Addr.add_lit] at hc
      exact (hb.cell (p := ⟨g, 0 + j, none⟩) ((h.lt g rfl).2)).trans hc⟩⟩
theorem asI_one (l : List Int) : ∀ u ∈ l.map (fun z => Value.int .i64 z), u.oneCell' = true := fun u hu => by
  obtain ⟨z, _, rfl⟩ := List.mem_map.1 hu
  rfl
end Go.Proofs.Ytegoookllckhiaa
