/-
  What is known of the memory, as lists: which frames are bad, which state each section has; the bad ones, rising. Nothing of the program is named here.
  Conditions: none beside those that each line bears.
-/
import Derived.Test.YtegoookllckhiaaBas
namespace Go.Proofs.Ytegoookllckhiaa
open Go.RowKit
set_option linter.unusedVariables false

/-- Bad frames, and states. -/
abbrev MD := List Bool × List Nat
structure MdOk (m : MD) : Prop where
  bad : m.1.length = 1024
  st : m.2.length = 32
  low : ∀ s ∈ m.2, s ≤ 3
def md0 : MD := (List.replicate 1024 false, List.replicate 32 0)
theorem md0_ok : MdOk md0 := ⟨by unfold md0; exact List.length_replicate, by unfold md0; exact List.length_replicate, fun s hs => by
  have := List.eq_of_mem_replicate (show s ∈ List.replicate 32 0 from hs)
  omega⟩
/-- As cells. -/
def modL (m : MD) : List Value := m.1.map Value.bool ++ m.2.map (fun s => Value.int .i64 ((s : Nat) : Int))
theorem modL_length {m : MD} (h : MdOk m) : (modL m).length = 1056 := by simp [modL, h.bad, h.st]
theorem modL_bad {m : MD} (h : MdOk m) {f : Nat} (hf : f < 1024) : (modL m)[f]? = some (.bool (m.1.getD f false)) := by
  unfold modL
  rw [List.getElem?_append_left (by simp [h.bad]; exact hf)]
  have : f < m.1.length := by rw [h.bad]; exact hf
  simp [this]
theorem modL_st {m : MD} (h : MdOk m) {s : Nat} (hs : s < 32) : (modL m)[1024 + s]? = some (.int .i64 ((m.2.getD s 0 : Nat) : Int)) := by
  unfold modL
  rw [List.getElem?_append_right (by simp [h.bad])]
  have : s < m.2.length := by rw [h.st]; exact hs
  simp [h.bad, this]
theorem modL_inj {m m' : MD} (h : MdOk m) (h' : MdOk m') (he : modL m = modL m') : m = m' := by
  unfold modL at he
  obtain ⟨h1, h2⟩ := List.append_inj he (by simp [h.bad, h'.bad])
  refine Prod.ext ?_ ?_
  · exact (List.map_inj_right (fun a b e => by injection e)).1 h1
  · refine (List.map_inj_right (fun a b e => ?_)).1 h2
    injection e with _ e
    exact Int.ofNat_inj.1 e
theorem modL_set_bad {m : MD} (h : MdOk m) {f : Nat} (hf : f < 1024) (b : Bool) : (modL m).set f (.bool b) = modL (m.1.set f b, m.2) := by
  unfold modL
  rw [List.set_append_left _ _ (by simp [h.bad]; exact hf), List.map_set]
theorem modL_set_st {m : MD} (h : MdOk m) {s : Nat} (hs : s < 32) (v : Nat) : (modL m).set (1024 + s) (.int .i64 ((v : Nat) : Int)) = modL (m.1, m.2.set s v) := by
  unfold modL
  rw [List.set_append_right _ _ (by simp [h.bad]), List.map_set]
  simp [h.bad]
theorem MdOk.set_bad {m : MD} (h : MdOk m) (f : Nat) (b : Bool) : MdOk (m.1.set f b, m.2) := ⟨by simp [h.bad], h.st, h.low⟩
theorem MdOk.set_st {m : MD} (h : MdOk m) (s : Nat) {v : Nat} (hv : v ≤ 3) : MdOk (m.1, m.2.set s v) := ⟨h.bad, by simp [h.st], fun x hx => by
  rcases List.mem_or_eq_of_mem_set hx with hx | rfl
  · exact h.low x hx
  · exact hv⟩

/-- More frames bad. -/
def addB (l : List Bool) : List Nat → List Bool
  | [] => l
  | f :: fs => addB (l.set f true) fs
theorem addB_length (fs : List Nat) : ∀ l, (addB l fs).length = l.length := by
  induction fs with
  | nil => intro l; rfl
  | cons f fs ih => intro l; unfold addB; rw [ih]; simp
theorem addB_snoc (fs : List Nat) (f : Nat) : ∀ l, addB l (fs ++ [f]) = (addB l fs).set f true := by
  induction fs with
  | nil => intro l; rfl
  | cons g fs ih => intro l; show addB (l.set g true) (fs ++ [f]) = _; rw [ih]; rfl
theorem addB_getD (fs : List Nat) : ∀ l x, x < l.length → (addB l fs).getD x false = (l.getD x false || decide (x ∈ fs)) := by
  induction fs with
  | nil => intro l x hx; simp [addB]
  | cons f fs ih =>
    intro l x hx
    unfold addB
    rw [ih _ _ (by simpa using hx)]
    by_cases e : x = f
    · subst e
      simp [hx]
    · have : (l.set f true).getD x false = l.getD x false := by
        simp only [List.getD_eq_getElem?_getD]
        rw [List.getElem?_set_ne (fun h => e h.symm)]
      rw [this]
      simp [e]
theorem getD_ext {l l' : List Bool} (hl : l.length = l'.length) (h : ∀ x, x < l.length → l.getD x false = l'.getD x false) : l = l' := by
  refine List.ext_getElem hl fun x h1 h2 => ?_
  have := h x h1
  simpa [h1, h2] using this
def addM (m : MD) (fs : List Nat) : MD := (addB m.1 fs, m.2)
theorem MdOk.add {m : MD} (h : MdOk m) (fs : List Nat) : MdOk (addM m fs) := ⟨by unfold addM; rw [addB_length]; exact h.bad, h.st, h.low⟩
/-- All bad already: nothing more. -/
theorem addM_all {m : MD} (h : MdOk m) {fs : List Nat} (ha : ∀ f ∈ fs, m.1.getD f false = true) : addM m fs = m := by
  refine Prod.ext ?_ rfl
  refine getD_ext (addB_length _ _) fun x hx => ?_
  have hx' : x < m.1.length := by rw [← addB_length fs m.1]; exact hx
  show (addB m.1 fs).getD x false = _
  rw [addB_getD _ _ _ hx']
  by_cases e : x ∈ fs
  · rw [ha x e]; rfl
  · simp [e]
theorem addM_keeps {m : MD} (h : MdOk m) (fs : List Nat) {x : Nat} (hx : m.1.getD x false = true) : (addM m fs).1.getD x false = true := by
  show (addB m.1 fs).getD x false = true
  by_cases c : x < m.1.length
  · rw [addB_getD _ _ _ c, hx]; rfl
  · simp only [List.getD_eq_getElem?_getD] at hx
    rw [List.getElem?_eq_none (by omega)] at hx
    cases hx

theorem addM_has {m : MD} (h : MdOk m) {fs : List Nat} {f : Nat} (hf : f ∈ fs) (hl : f < 1024) : (addM m fs).1.getD f false = true := by
  show (addB m.1 fs).getD f false = true
  rw [addB_getD _ _ _ (by rw [h.bad]; exact hl)]
  simp [hf]
/-- The bad ones below k, rising. -/
def bads (l : List Bool) (k : Nat) : List Nat := (List.range k).filter (fun f => l.getD f false)
theorem bads_succ (l : List Bool) (k : Nat) : bads l (k + 1) = bads l k ++ (if l.getD k false then [k] else []) := by
  unfold bads
  rw [List.range_succ, List.filter_append]
  congr 1
  by_cases h : l.getD k false = true
  · rw [if_pos h]; exact List.filter_cons_of_pos h
  · rw [if_neg h]; exact List.filter_cons_of_neg h
theorem bads_lt {l : List Bool} {k x : Nat} (h : x ∈ bads l k) : x < k ∧ l.getD x false = true := by
  unfold bads at h
  rw [List.mem_filter, List.mem_range] at h
  exact h
theorem mem_bads {l : List Bool} {k x : Nat} (hx : x < k) (h : l.getD x false = true) : x ∈ bads l k := by
  unfold bads
  rw [List.mem_filter, List.mem_range]
  exact ⟨hx, h⟩
theorem bads_inj {l l' : List Bool} {k : Nat} (h1 : l.length = k) (h2 : l'.length = k) (h : bads l k = bads l' k) : l = l' := by
  refine getD_ext (h1.trans h2.symm) fun x hx => ?_
  rw [h1] at hx
  by_cases c : l.getD x false = true
  · have := mem_bads hx c
    rw [h] at this
    rw [c, (bads_lt this).2]
  · by_cases d : l'.getD x false = true
    · have := mem_bads hx d
      rw [← h] at this
      exact absurd (bads_lt this).2 c
    · simp only [Bool.not_eq_true] at c d
      rw [c, d]
theorem bads_length_le (l : List Bool) (k : Nat) : (bads l k).length ≤ k := by
  have := List.length_filter_le (fun f => l.getD f false) (List.range k)
  simpa [bads] using this
/-- What is below k is a beginning of what is below more. -/
theorem bads_pre (l : List Bool) {k n : Nat} (h : k ≤ n) : ∃ r, bads l n = bads l k ++ r := by
  induction n with
  | zero => obtain rfl : k = 0 := by omega
            exact ⟨[], by simp⟩
  | succ n ih =>
    by_cases e : k = n + 1
    · subst e; exact ⟨[], by simp⟩
    · obtain ⟨r, hr⟩ := ih (by omega)
      exact ⟨r ++ (if l.getD n false then [n] else []), by rw [bads_succ, hr, List.append_assoc]⟩
theorem bads_md0 : bads md0.1 1024 = [] := by
  refine List.eq_nil_iff_forall_not_mem.2 fun x hx => ?_
  have := (bads_lt hx).2
  change (List.replicate 1024 false).getD x false = true at this
  rw [List.getD_eq_getElem?_getD, List.getElem?_replicate] at this
  split at this <;> cases this
end Go.Proofs.Ytegoookllckhiaa
