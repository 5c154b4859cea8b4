/-
  Numbers that are in, as a list; the first run of an order. Nothing of the program is named here.
  Conditions: none beside those that each line bears.
-/
import Derived.Test.YtegoookllckhiaaRegM
namespace Go.Proofs.Ytegoookllckhiaa
open Go.RowKit
set_option linter.unusedVariables false

/-- Those that may be are in, or not. -/
def putB (l : List Bool) (b : Bool) : List Int → List Bool
  | [] => l
  | f :: fs => putB (if 0 ≤ f ∧ f < (l.length : Int) then l.set f.toNat b else l) b fs
theorem putB_length (b : Bool) (fs : List Int) : ∀ l, (putB l b fs).length = l.length := by
  induction fs with
  | nil => intro l; rfl
  | cons f fs ih =>
    intro l
    unfold putB
    rw [ih]
    split <;> simp
theorem putB_snoc (b : Bool) (fs : List Int) (f : Int) : ∀ l, putB l b (fs ++ [f]) = if 0 ≤ f ∧ f < (l.length : Int) then (putB l b fs).set f.toNat b else putB l b fs := by
  induction fs with
  | nil =>
    intro l
    show putB (if 0 ≤ f ∧ f < (l.length : Int) then l.set f.toNat b else l) b [] = _
    split <;> rfl
  | cons g fs ih =>
    intro l
    show putB (if 0 ≤ g ∧ g < (l.length : Int) then l.set g.toNat b else l) b (fs ++ [f]) = _
    rw [ih]
    have : (if 0 ≤ g ∧ g < (l.length : Int) then l.set g.toNat b else l).length = l.length := by split <;> simp
    rw [this]
    rfl
/-- A run stands there. -/
def RunAt (l : List Bool) (o : Nat) (a b : Int) (f : Nat) : Prop := f % 2 ^ o = 0 ∧ f + 2 ^ o ≤ l.length ∧ a ≤ (f : Int) ∧ ((f + 2 ^ o : Nat) : Int) ≤ b ∧ ∀ k, f ≤ k → k < f + 2 ^ o → l.getD k false = true
/-- The first one, if there is one. -/
def RunIs (l : List Bool) (order a b : Int) (r : Option Nat) : Prop :=
  match r with
  | some f => 0 ≤ order ∧ order ≤ 5 ∧ RunAt l order.toNat a b f ∧ ∀ g, g < f → ¬ RunAt l order.toNat a b g
  | none => order < 0 ∨ 5 < order ∨ ∀ f, ¬ RunAt l order.toNat a b f
theorem RunIs.uniq {l : List Bool} {order a b : Int} {r r' : Option Nat} (h : RunIs l order a b r) (h' : RunIs l order a b r') : r = r' := by
  cases r with
  | none =>
    cases r' with
    | none => rfl
    | some g =>
      obtain ⟨h1, h2, h3, _⟩ := h'
      rcases h with h | h | h
      · omega
      · omega
      · exact absurd h3 (h g)
  | some f =>
    obtain ⟨h1, h2, h3, h4⟩ := h
    cases r' with
    | none =>
      rcases h' with h | h | h
      · omega
      · omega
      · exact absurd h3 (h f)
    | some g =>
      obtain ⟨_, _, k3, k4⟩ := h'
      rcases Nat.lt_trichotomy f g with c | c | c
      · exact absurd h3 (k4 f c)
      · rw [c]
      · exact absurd k3 (h4 g c)
/-- As the call answers it. -/
def runV (r : Option Nat) : Value := .tuple #[.int .i64 ((r.getD 0 : Nat) : Int), .bool r.isSome]
/-- A run of an order has one of each lesser order, no later. -/
theorem RunAt.half {l : List Bool} {o : Nat} {a b : Int} {f : Nat} (h : RunAt l (o + 1) a b f) : RunAt l o a b f := by
  obtain ⟨h1, h2, h3, h4, h5⟩ := h
  have e : 2 ^ (o + 1) = 2 ^ o * 2 := Nat.pow_succ 2 o
  have hp : 0 < 2 ^ o := Nat.pow_pos (by omega)
  rw [e] at h1 h2 h4 h5
  refine ⟨?_, by omega, h3, by omega, fun k k1 k2 => h5 k k1 (by omega)⟩
  have := Nat.dvd_of_mod_eq_zero h1
  exact Nat.mod_eq_zero_of_dvd (Nat.dvd_trans ⟨2, rfl⟩ this)
theorem next_run {l : List Bool} {o sz f : Nat} {a b : Int} (hs : 2 ^ o = sz) (hz : 0 < sz) (hm : f % sz = 0) (hb : ∀ g, g < f → ¬ RunAt l o a b g) (hf : ¬ RunAt l o a b f) : ∀ g, g < f + sz → ¬ RunAt l o a b g := by
  intro g hg h
  by_cases c1 : g < f
  · exact hb g c1 h
  · by_cases c2 : g = f
    · rw [c2] at h; exact hf h
    · have h1 := h.1
      rw [hs] at h1
      have e : g = f + (g - f) := by omega
      rw [e, Nat.add_mod, hm, Nat.zero_add, Nat.mod_mod, Nat.mod_eq_of_lt (by omega)] at h1
      omega
end Go.Proofs.Ytegoookllckhiaa
