/-
  What the statements of layer 7 ask of lists of bad frames: a greedy walk finds all that was bad among all that is; no more are bad than were asked for.
  Conditions: none beside those that each line bears.
-/
import Derived.Test.YtfnegbcpiejdaabRegM
namespace Go.Proofs.Ytfnegbcpiejdaab
open Go.RowKit
set_option linter.unusedVariables false

/-- What was bad, out of what is. -/
theorem bads_filter {l l' : List Bool} {k : Nat} (h : ∀ x, l.getD x false = true → l'.getD x false = true) : bads l k = (bads l' k).filter (fun f => l.getD f false) := by
  unfold bads
  rw [List.filter_filter]
  refine List.filter_congr fun x _ => ?_
  by_cases c : l.getD x false = true
  · rw [c, h x c]; rfl
  · simp only [Bool.not_eq_true] at c
    rw [c]; rfl
/-- How far the walk has come behind n of them. -/
def come (p : Nat → Bool) (zs : List Nat) (n : Nat) : Nat := ((zs.take n).filter p).length
theorem come_zero (p : Nat → Bool) (zs : List Nat) : come p zs 0 = 0 := by simp [come]
theorem come_all (p : Nat → Bool) (zs : List Nat) : come p zs zs.length = (zs.filter p).length := by simp [come]
theorem come_succ {p : Nat → Bool} {zs : List Nat} {n : Nat} (h : n < zs.length) : come p zs (n + 1) = come p zs n + (if p (zs.getD n 0) then 1 else 0) := by
  unfold come
  rw [List.take_add_one, List.getElem?_eq_getElem h, List.filter_append]
  have e : zs.getD n 0 = zs[n] := by simp [h]
  rw [e]
  by_cases c : p zs[n] = true
  · simp [c]
  · simp [c]
theorem come_le (p : Nat → Bool) (zs : List Nat) (n : Nat) : come p zs n ≤ (zs.filter p).length := by
  unfold come
  have : zs.filter p = (zs.take n).filter p ++ (zs.drop n).filter p := by rw [← List.filter_append, List.take_append_drop]
  rw [this, List.length_append]
  omega
/-- The next one that was bad is the next of the walk just where the walk meets one that was. -/
theorem come_yes {p : Nat → Bool} {zs : List Nat} {n : Nat} (h : n < zs.length) (hp : p (zs.getD n 0) = true) : come p zs n < (zs.filter p).length ∧ (zs.filter p).getD (come p zs n) 0 = zs.getD n 0 := by
  have e : zs.getD n 0 = zs[n] := by simp [h]
  rw [e] at hp ⊢
  have h1 : zs.filter p = (zs.take n).filter p ++ (zs[n] :: (zs.drop (n + 1)).filter p) := by
    conv => lhs; rw [← List.take_append_drop n zs, List.drop_eq_getElem_cons h, List.filter_append]
    rw [List.filter_cons_of_pos hp]
  rw [h1]
  unfold come
  refine ⟨by simp, ?_⟩
  rw [List.getD_eq_getElem?_getD, List.getElem?_append_right (Nat.le_refl _)]
  simp
theorem come_no {p : Nat → Bool} {zs : List Nat} {n : Nat} (h : n < zs.length) (hp : p (zs.getD n 0) = false) (hk : come p zs n < (zs.filter p).length) : (zs.filter p).getD (come p zs n) 0 ≠ zs.getD n 0 := by
  intro e
  have hm : (zs.filter p).getD (come p zs n) 0 ∈ zs.filter p := by
    rw [List.getD_eq_getElem?_getD, List.getElem?_eq_getElem hk]
    exact List.getElem_mem _
  rw [e, List.mem_filter, hp] at hm
  exact absurd hm.2 (by simp)

/-- One more is bad at most. -/
theorem bads_set_le (l : List Bool) (f : Nat) : ∀ k, (bads (l.set f true) k).length ≤ (bads l k).length + 1 ∧ (k ≤ f → bads (l.set f true) k = bads l k) := by
  intro k
  induction k with
  | zero => simp [bads]
  | succ k ih =>
    obtain ⟨h1, h2⟩ := ih
    have hne : k ≠ f → (l.set f true).getD k false = l.getD k false := fun h => by
      simp only [List.getD_eq_getElem?_getD]
      rw [List.getElem?_set_ne (fun e => h e.symm)]
    refine ⟨?_, fun hk => ?_⟩
    · rw [bads_succ, bads_succ, List.length_append, List.length_append]
      by_cases e : k = f
      · rw [h2 (by omega)]
        split <;> split <;> simp <;> omega
      · rw [hne e]
        omega
    · rw [bads_succ, bads_succ, h2 (by omega), hne (by omega)]
theorem bads_add_le (k : Nat) (fs : List Nat) : ∀ l, (bads (addB l fs) k).length ≤ (bads l k).length + fs.length := by
  induction fs with
  | nil => intro l; simp [addB]
  | cons f fs ih =>
    intro l
    have h1 := ih (l.set f true)
    have h2 := (bads_set_le l f k).1
    show (bads (addB (l.set f true) fs) k).length ≤ _
    simp only [List.length_cons]
    omega
theorem addM_le (m : MD) (fs : List Nat) (k : Nat) : (bads (addM m fs).1 k).length ≤ (bads m.1 k).length + fs.length := bads_add_le k fs m.1
end Go.Proofs.Ytfnegbcpiejdaab
