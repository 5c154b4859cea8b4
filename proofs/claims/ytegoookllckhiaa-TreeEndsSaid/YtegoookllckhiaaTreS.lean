/-
  A tree's state: each page's entry, and which frames are tables; what Set makes of it. Nothing of the program is named here.
  Conditions: none beside those that each line bears.
-/
import Derived.Test.YtegoookllckhiaaTreP
import Derived.Test.YtegoookllckhiaaEntP
import Derived.Test.YtegoookllckhiaaPooF
namespace Go.Proofs.Ytegoookllckhiaa
open Go.RowKit
set_option linter.unusedVariables false

structure TS where
  e : List En
  t : List Nat
  live : Bool
def en0 : En := ⟨0, 0, false⟩
/-- The pages that have something, rising. -/
def pagesOf (e : List En) : List Nat := (List.range 4096).filter (fun p => decide ((e.getD p en0).k ≠ 0))
theorem pagesOf_mem {e : List En} {p : Nat} : p ∈ pagesOf e ↔ p < 4096 ∧ (e.getD p en0).k ≠ 0 := by
  unfold pagesOf
  rw [List.mem_filter, List.mem_range]
  simp
theorem pagesOf_lt {e : List En} : ∀ x ∈ pagesOf e, x < 4096 := fun x hx => (pagesOf_mem.1 hx).1
theorem pagesOf_length (e : List En) : (pagesOf e).length ≤ 4096 := by
  have := List.length_filter_le (fun p => decide ((e.getD p en0).k ≠ 0)) (List.range 4096)
  rwa [List.length_range] at this
structure TsOk (s : TS) : Prop where
  el : s.e.length = 4096
  eok : ∀ x ∈ s.e, EnOk x
  sorted : s.t.Pairwise (fun a b => a < b)
  tlt : ∀ f ∈ s.t, f < 1024
  num : s.live = true → s.t.length = tablesN (pagesOf s.e)
  dead : s.live = false → s.t = []
/-- Each frame that is free, or a table, is in a Normal section that is not isolated. -/
def AllN (p : PS) : Prop := ∀ f, f < 1024 → (p.u.getD f 0 = 1 ∨ p.u.getD f 0 = 2) → p.z.getD (f / 32) 0 = 2 ∧ p.i.getD (f / 32) false = false
/-- How many frames of the first sections are free. -/
def freeU (u : List Nat) : Nat → Nat
  | 0 => 0
  | k + 1 => freeU u k + cntU u 1 (32 * k) 32
theorem freeU_le (u : List Nat) : ∀ k, freeU u k ≤ 32 * k := by
  intro k
  induction k with
  | zero => exact Nat.le_refl _
  | succ k ih =>
    have := cntU_le u 1 (32 * k) 32
    show freeU u k + cntU u 1 (32 * k) 32 ≤ _
    omega
/-- Frames came and went. -/
structure Step (s : TS) (p : PS) (s' : TS) (p' : PS) : Prop where
  z : p'.z = p.z
  i : p'.i = p.i
  u : ∀ f, f < 1024 → p'.u.getD f 0 = if f ∈ s'.t then 2 else if f ∈ s.t then 1 else p.u.getD f 0
  new : ∀ f, f ∈ s'.t → f ∉ s.t → p.u.getD f 0 = 1
  num : freeU p'.u 32 + s'.t.length = freeU p.u 32 + s.t.length
/-- What Set answers, and what there is then. -/
def SetIs (s : TS) (p : PS) (page : Int) (x : En) (er : Nat) (s' : TS) (p' : PS) : Prop :=
  ((page < 0 ∨ 4095 < page) ∧ er = 1 ∧ s' = s ∧ p' = p) ∨
  ((0 ≤ page ∧ page ≤ 4095) ∧
    ((¬ EnOk x ∧ er = 8 ∧ s' = s ∧ p' = p) ∨
     (EnOk x ∧ er = 4 ∧ s' = s ∧ p' = p ∧ (AllN p → s.t.length + freeU p.u 32 < tablesN (pagesOf (s.e.set page.toNat x)))) ∨
     (EnOk x ∧ er = 0 ∧ s'.e = s.e.set page.toNat x ∧ s'.live = true ∧ Step s p s' p')))
theorem Step.all {s s' : TS} {p p' : PS} (h : Step s p s' p') (ha : AllN p) (hu : ∀ f ∈ s.t, p.u.getD f 0 = 2) : AllN p' := by
  intro f hf h12
  rw [h.z, h.i]
  refine ha f hf ?_
  by_cases c : f ∈ s.t
  · exact .inr (hu f c)
  · by_cases c2 : f ∈ s'.t
    · exact .inl (h.new f c2 c)
    · rw [h.u f hf, if_neg c2, if_neg c] at h12
      exact h12
theorem Step.tabs {s s' : TS} {p p' : PS} (h : Step s p s' p') (hl : ∀ f ∈ s'.t, f < 1024) : ∀ f ∈ s'.t, p'.u.getD f 0 = 2 := fun f hf => by rw [h.u f (hl f hf), if_pos hf]
end Go.Proofs.Ytegoookllckhiaa
