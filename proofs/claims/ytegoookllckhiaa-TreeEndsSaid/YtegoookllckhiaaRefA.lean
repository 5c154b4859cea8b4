/-
  The contract of the document's own Alloc.
  Conditions: none beside RefP's.
-/
import Derived.Test.YtegoookllckhiaaRefF
namespace Go.Proofs.Ytegoookllckhiaa
open Go.RowKit
set_option linter.unusedVariables false

theorem FirstF.ex (p : PS) (z sz : Nat) : ∃ r, FirstF p z sz r := by
  have h : ∀ n, (∀ x, x < n → ¬ RunF p z sz x) ∨ ∃ f, RunF p z sz f ∧ ∀ x, x < f → ¬ RunF p z sz x := by
    intro n
    induction n with
    | zero => exact .inl fun x hx => absurd hx (by omega)
    | succ n ih =>
      rcases ih with ih | ih
      · by_cases c : RunF p z sz n
        · exact .inr ⟨n, c, ih⟩
        · refine .inl fun x hx => ?_
          by_cases e : x = n
          · rw [e]; exact c
          · exact ih x (by omega)
      · exact .inr ih
  rcases h 1024 with h | ⟨f, h⟩
  · exact ⟨none, fun x hx => h x hx.2.1 hx⟩
  · exact ⟨some f, h⟩
theorem firstF_none {p : PS} {z sz : Nat} (h : ∀ x, x < 1024 → ¬ RunF p z sz x) : FirstF p z sz none := fun x hx => h x hx.2.1 hx
theorem allocIs_arg {p : PS} {use o : Int} {m : Bool} (h : (use < 2 ∨ 5 < use) ∨ (o < 0 ∨ 5 < o)) : AllocIs p use o m 0 1 p := .inl ⟨h, rfl, rfl, rfl⟩
theorem allocIs_full {p : PS} {u o : Nat} {m : Bool} (hu : 2 ≤ u ∧ u ≤ 5) (ho : o ≤ 5) (h3 : m = true → FirstF p 3 (2 ^ o) none) (h2 : FirstF p 2 (2 ^ o) none) : AllocIs p (u : Int) (o : Int) m 0 4 p := by
  refine .inr ⟨by omega, ?_⟩
  rw [Int.toNat_natCast]
  cases m with
  | true => exact ⟨none, none, h3 rfl, h2, rfl, rfl, rfl⟩
  | false =>
    obtain ⟨r, hr⟩ := FirstF.ex p 3 (2 ^ o)
    exact ⟨r, none, hr, h2, rfl, rfl, rfl⟩
theorem allocIs_3 {p : PS} {u o f : Nat} (hu : 2 ≤ u ∧ u ≤ 5) (ho : o ≤ 5) (h : RunF p 3 (2 ^ o) f) (hb : ∀ x, x < f → ¬ RunF p 3 (2 ^ o) x) : AllocIs p (u : Int) (o : Int) true f 0 ⟨spanU (fun _ => u) p.u f (f + 2 ^ o), p.z, p.i⟩ := by
  refine .inr ⟨by omega, ?_⟩
  rw [Int.toNat_natCast, Int.toNat_natCast]
  obtain ⟨r, hr⟩ := FirstF.ex p 2 (2 ^ o)
  exact ⟨some f, r, ⟨h, hb⟩, hr, rfl, rfl, rfl⟩
theorem allocIs_2 {p : PS} {u o f : Nat} {m : Bool} (hu : 2 ≤ u ∧ u ≤ 5) (ho : o ≤ 5) (h3 : m = true → FirstF p 3 (2 ^ o) none) (h : RunF p 2 (2 ^ o) f) (hb : ∀ x, x < f → ¬ RunF p 2 (2 ^ o) x) : AllocIs p (u : Int) (o : Int) m f 0 ⟨spanU (fun _ => u) p.u f (f + 2 ^ o), p.z, p.i⟩ := by
  refine .inr ⟨by omega, ?_⟩
  rw [Int.toNat_natCast, Int.toNat_natCast]
  cases m with
  | true => exact ⟨none, some f, h3 rfl, ⟨h, hb⟩, rfl, rfl, rfl⟩
  | false =>
    obtain ⟨r, hr⟩ := FirstF.ex p 3 (2 ^ o)
    exact ⟨r, some f, hr, ⟨h, hb⟩, rfl, rfl, rfl⟩
theorem next_runF {p : PS} {z sz f : Nat} (hz : 0 < sz) (hm : f % sz = 0) (hb : ∀ x, x < f → ¬ RunF p z sz x) (hf : ¬ RunF p z sz f) : ∀ x, x < f + sz → ¬ RunF p z sz x := by
  intro x hx h
  by_cases c1 : x < f
  · exact hb x c1 h
  · by_cases c2 : x = f
    · rw [c2] at h; exact hf h
    · have h1 := h.1
      have e : x = f + (x - f) := by omega
      rw [e, Nat.add_mod, hm, Nat.zero_add, Nat.mod_mod, Nat.mod_eq_of_lt (by omega)] at h1
      omega
theorem ones_succ {u : List Nat} {f k : Nat} (hf : f ≤ k) : (∀ j, f ≤ j → j < k + 1 → u.getD j 0 = 1) ↔ ((∀ j, f ≤ j → j < k → u.getD j 0 = 1) ∧ u.getD k 0 = 1) := by
  constructor
  · intro h
    exact ⟨fun j h1 h2 => h j h1 (by omega), h k hf (by omega)⟩
  · rintro ⟨h1, h2⟩ j k1 k2
    by_cases e : j = k
    · rw [e]; exact h2
    · exact h1 j k1 (by omega)
end Go.Proofs.Ytegoookllckhiaa
