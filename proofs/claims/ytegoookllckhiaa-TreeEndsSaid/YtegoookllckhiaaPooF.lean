/-
  A pool as lists: what its other calls answer, and the frames of Online one by one. Nothing of the program is named here.
  Conditions: none beside those that each line bears.
-/
import Derived.Test.YtegoookllckhiaaPoo
namespace Go.Proofs.Ytegoookllckhiaa
open Go.RowKit
set_option linter.unusedVariables false

def zoneP (p : PS) (s : Int) : Nat := if 0 ≤ s ∧ s < 32 then p.z.getD s.toNat 0 else 0
def useP (p : PS) (f : Int) : Nat := if 0 ≤ f ∧ f < 1024 then p.u.getD f.toNat 0 else 0
def freeP (p : PS) (f : Int) : Bool × PS := if 2 ≤ useP p f ∧ useP p f ≤ 5 then (true, ⟨p.u.set f.toNat 1, p.z, p.i⟩) else (false, p)
def spoilP (p : PS) (f : Int) : Bool × PS := if (0 ≤ f ∧ f < 1024) ∧ useP p f ≠ 6 then (true, ⟨p.u.set f.toNat 6, p.z, p.i⟩) else (false, p)
def isoP (p : PS) (s : Int) (b : Bool) : Bool × PS := if zoneP p s ≠ 0 then (true, ⟨p.u, p.z, p.i.set s.toNat b⟩) else (false, p)
/-- How many of the frames from a up to b have that use. -/
def cntU (u : List Nat) (v : Int) (a n : Nat) : Nat := ((List.range n).filter (fun j => decide (((u.getD (a + j) 0 : Nat) : Int) = v))).length
theorem cntU_succ (u : List Nat) (v : Int) (a n : Nat) : cntU u v a (n + 1) = cntU u v a n + if ((u.getD (a + n) 0 : Nat) : Int) = v then 1 else 0 := by
  unfold cntU
  rw [List.range_succ, List.filter_append, List.length_append]
  by_cases h : ((u.getD (a + n) 0 : Nat) : Int) = v
  · rw [if_pos h]; simp only [List.filter_cons, h]; simp
  · rw [if_neg h]; simp only [List.filter_cons, h]; simp
theorem cntU_le (u : List Nat) (v : Int) (a n : Nat) : cntU u v a n ≤ n := by
  have := List.length_filter_le (fun j => decide (((u.getD (a + j) 0 : Nat) : Int) = v)) (List.range n)
  rwa [List.length_range] at this
theorem cntU_all {u : List Nat} {v : Int} {a : Nat} : ∀ n, (∀ j, j < n → ((u.getD (a + j) 0 : Nat) : Int) = v) → cntU u v a n = n := by
  intro n
  induction n with
  | zero => intro _; rfl
  | succ n ih => intro h; rw [cntU_succ, ih (fun j hj => h j (by omega)), if_pos (h n (by omega))]
def countP (p : PS) (s v : Int) : Nat := if 0 ≤ s ∧ s < 32 then cntU p.u v (32 * s.toNat) 32 else 0
theorem freeP_ok {p : PS} (h : PsOk p) (f : Int) : PsOk (freeP p f).2 := by
  unfold freeP
  split
  · exact h.setU _ 1 (by omega)
  · exact h
theorem spoilP_ok {p : PS} (h : PsOk p) (f : Int) : PsOk (spoilP p f).2 := by
  unfold spoilP
  split
  · exact h.setU _ 6 (by omega)
  · exact h
theorem isoP_ok {p : PS} (h : PsOk p) (s : Int) (b : Bool) : PsOk (isoP p s b).2 := by
  unfold isoP
  split
  · exact h.setI _ _
  · exact h
theorem zoneP_le {p : PS} (h : PsOk p) (s : Int) : zoneP p s ≤ 3 := by
  unfold zoneP
  split
  · exact h.zle _
  · omega
theorem useP_le {p : PS} (h : PsOk p) (s : Int) : useP p s ≤ 6 := by
  unfold useP
  split
  · exact h.ule _
  · omega
theorem useP_in (p : PS) {f : Nat} (h : f < 1024) : useP p (f : Int) = p.u.getD f 0 := by unfold useP; rw [if_pos ⟨by omega, by omega⟩, Int.toNat_natCast]
theorem zoneP_in (p : PS) {f : Nat} (h : f < 32) : zoneP p (f : Int) = p.z.getD f 0 := by unfold zoneP; rw [if_pos ⟨by omega, by omega⟩, Int.toNat_natCast]

/-! ### Online, frame by frame -/
theorem badU_getD (s : Nat) (bs : List Int) : ∀ (u : List Nat) (f : Nat), f < u.length → (badU s u bs).getD f 0 = if (32 * s ≤ f ∧ f < 32 * s + 32) ∧ (f : Int) ∈ bs then 6 else u.getD f 0 := by
  induction bs with
  | nil => intro u f hf; simp [badU]
  | cons b bs ih =>
    intro u f hf
    have h2 : badU s u (b :: bs) = badU s (if 32 * (s : Int) ≤ b ∧ b < 32 * (s : Int) + 32 then u.set b.toNat 6 else u) bs := rfl
    rw [h2, ih _ f (by split <;> simpa using hf)]
    by_cases c : (32 * s ≤ f ∧ f < 32 * s + 32) ∧ (f : Int) ∈ bs
    · rw [if_pos c, if_pos ⟨c.1, List.mem_cons_of_mem _ c.2⟩]
    · rw [if_neg c]
      by_cases e : 32 * (s : Int) ≤ b ∧ b < 32 * (s : Int) + 32
      · rw [if_pos e]
        by_cases q : f = b.toNat
        · subst q
          rw [getD_set_same _ _ _ _ hf, if_pos ⟨⟨by omega, by omega⟩, by rw [Int.toNat_of_nonneg (by omega)]; exact List.mem_cons_self⟩]
        · rw [getD_set_ne _ _ _ _ _ q, if_neg]
          rintro ⟨h, hm⟩
          rcases List.mem_cons.1 hm with hm | hm
          · omega
          · exact c ⟨h, hm⟩
      · rw [if_neg e, if_neg]
        rintro ⟨h, hm⟩
        rcases List.mem_cons.1 hm with hm | hm
        · omega
        · exact c ⟨h, hm⟩
theorem onP_new {p : PS} {s z : Nat} {bs : List Int} (hs : s < 32) (hz : z = 2 ∨ z = 3) (h0 : p.z.getD s 0 = 0) : onP p (s : Int) (z : Int) bs = (0, ⟨badU s (spanU freshG p.u (32 * s) (32 * s + 32)) bs, p.z.set s z, p.i.set s false⟩) := by
  unfold onP
  rw [if_neg (by omega), Int.toNat_natCast, if_neg (by rw [h0]; simp), Int.toNat_natCast]
/-- The frames of a section that was never there, brought on line with no bad ones. -/
theorem on_clean {p : PS} {s f : Nat} (hu : p.u.length = 1024) (hf : f < 1024) : (badU s (spanU freshG p.u (32 * s) (32 * s + 32)) []).getD f 0 = if 32 * s ≤ f ∧ f < 32 * s + 32 then freshG (p.u.getD f 0) else p.u.getD f 0 := by
  show (spanU freshG p.u (32 * s) (32 * s + 32)).getD f 0 = _
  rw [spanU_getD _ _ _ _ _ (by rw [hu]; exact hf)]
end Go.Proofs.Ytegoookllckhiaa
