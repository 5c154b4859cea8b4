/-
  An entry, which may be, and its number. Nothing of the program is named here.
  Conditions: none beside those that each line bears.
-/
import Derived.Test.YtegoookllckhiaaBas
namespace Go.Proofs.Ytegoookllckhiaa
open Go.RowKit
set_option linter.unusedVariables false

/-- Kind, number, whether it may be written. -/
structure En where
  k : Int
  n : Int
  w : Bool
  deriving DecidableEq
/-- It may be. -/
def EnOk (x : En) : Prop := (x.k = 1 ∧ 0 ≤ x.n ∧ x.n < 1024) ∨ (x.k = 2 ∧ 0 ≤ x.n ∧ x.n < 32 ∧ x.w = false) ∨ ((x.k = 0 ∨ x.k = 3) ∧ x.n = 0 ∧ x.w = false)
instance (x : En) : Decidable (EnOk x) := by unfold EnOk; infer_instance
/-- Its number. -/
def numE (x : En) : Nat := (x.k + 4 * x.n).toNat + (if x.w then 1099511627776 else 0)
theorem EnOk.lo {x : En} (h : EnOk x) : 0 ≤ x.k ∧ x.k ≤ 3 ∧ 0 ≤ x.n ∧ x.n < 1024 := by
  unfold EnOk at h
  omega
theorem numE_int {x : En} (h : EnOk x) : ((numE x : Nat) : Int) = x.k + 4 * x.n + (if x.w then 1099511627776 else 0) := by
  have := h.lo
  unfold numE
  split <;> omega
theorem numE_lt {x : En} (h : EnOk x) : numE x < 1099511631872 := by
  have h1 := numE_int h
  have := h.lo
  split at h1 <;> omega
theorem numE_inj {x y : En} (hx : EnOk x) (hy : EnOk y) (h : numE x = numE y) : x = y := by
  have h1 := numE_int hx
  have h2 := numE_int hy
  have l1 := hx.lo
  have l2 := hy.lo
  rw [h] at h1
  obtain ⟨k, n, w⟩ := x
  obtain ⟨k', n', w'⟩ := y
  simp only at h1 h2 l1 l2
  have hw : w = w' := by
    cases w <;> cases w' <;> simp at h1 h2 ⊢ <;> omega
  subst hw
  have hk : k = k' := by
    split at h1 <;> split at h2 <;> first | omega | simp_all
  have hn : n = n' := by
    split at h1 <;> split at h2 <;> first | omega | simp_all
  rw [hk, hn]
theorem numE_zero {x : En} (h : EnOk x) : numE x = 0 ↔ x = ⟨0, 0, false⟩ := by
  constructor
  · intro h0
    exact numE_inj h (.inr (.inr ⟨.inl rfl, rfl, rfl⟩)) h0
  · rintro rfl
    rfl
/-- The entry that a number would be of. -/
def enOf (v : Nat) : En := ⟨((v % 1099511627776 % 4 : Nat) : Int), ((v % 1099511627776 / 4 : Nat) : Int), decide (v / 1099511627776 = 1)⟩
theorem numE_of {v : Nat} (h : v / 1099511627776 ≤ 1) (hx : EnOk (enOf v)) : numE (enOf v) = v := by
  have h1 := numE_int hx
  have e1 : (enOf v).k = ((v % 1099511627776 % 4 : Nat) : Int) := rfl
  have e2 : (enOf v).n = ((v % 1099511627776 / 4 : Nat) : Int) := rfl
  have e3 : (enOf v).w = decide (v / 1099511627776 = 1) := rfl
  rw [e1, e2, e3] at h1
  by_cases c : v / 1099511627776 = 1
  · rw [decide_eq_true c, if_pos rfl] at h1
    omega
  · rw [decide_eq_false c, if_neg (by simp)] at h1
    omega
def enV (x : En) : Array Value := #[.int .i64 x.k, .int .i64 x.n, .bool x.w]
end Go.Proofs.Ytegoookllckhiaa
