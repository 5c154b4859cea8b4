/-
  PoolNone, and the short play that every statement of the pool ends with.
  Conditions: none beside the pool's contracts.
-/
import Derived.Test.YtegoookllckhiaaPooI
import Derived.Test.YtegoookllckhiaaRefB
import Derived.Deep.LoopGhost
import Derived.BigQuiet
namespace Go.Proofs.Ytegoookllckhiaa
open Go.RowKit
set_option linter.unusedVariables false

def P1 : PS := ⟨badU 1 (spanU freshG ps0.u (32 * 1) (32 * 1 + 32)) [32], ps0.z.set 1 2, ps0.i.set 1 false⟩
def P2 : PS := ⟨spanU (fun _ => 3) P1.u 33 34, P1.z, P1.i⟩
theorem repl_getD (n f : Nat) : (List.replicate n 0).getD f 0 = 0 := by
  rw [List.getD_eq_getElem?_getD, List.getElem?_replicate]
  split <;> rfl
theorem ps0_ue : ps0.u = List.replicate 1024 0 := by rw [ps0]
theorem ps0_ze : ps0.z = List.replicate 32 0 := by rw [ps0]
theorem ps0_ul : ps0.u.length = 1024 := by rw [ps0_ue]; exact List.length_replicate
theorem p1_ue : P1.u = badU 1 (spanU freshG ps0.u (32 * 1) (32 * 1 + 32)) [32] := by rw [P1]
theorem p1_ze : P1.z = ps0.z.set 1 2 := by rw [P1]
theorem p1_is : onP ps0 1 2 [32] = (0, P1) := by
  have := onP_new (p := ps0) (s := 1) (z := 2) (bs := [32]) (by omega) (by omega) (ps0_z 1)
  rw [P1]
  exact this
theorem p1_ul : P1.u.length = 1024 := by rw [p1_ue, badU_length, spanU_length, ps0_ul]
theorem p1_u (f : Nat) (hf : f < 1024) : P1.u.getD f 0 = if f = 32 then 6 else if 32 ≤ f ∧ f < 64 then 1 else 0 := by
  rw [p1_ue, badU_getD _ _ _ _ (by rw [spanU_length, ps0_ul]; exact hf), spanU_getD _ _ _ _ _ (by rw [ps0_ul]; exact hf), ps0_u f]
  by_cases c : f = 32
  · subst c; rfl
  · have : ¬ ((32 * 1 ≤ f ∧ f < 32 * 1 + 32) ∧ (f : Int) ∈ [(32 : Int)]) := by
      rintro ⟨_, h⟩
      rcases List.mem_cons.1 h with h | h
      · omega
      · cases h
    rw [if_neg c, if_neg this]
    rfl
theorem p1_zg (s : Nat) : P1.z.getD s 0 = if s = 1 then 2 else 0 := by
  rw [p1_ze]
  by_cases c : s = 1
  · subst c
    rw [if_pos rfl, getD_set_same _ _ _ _ (by rw [ps0_ze, List.length_replicate]; omega)]
  · rw [if_neg c, getD_set_ne _ _ _ _ _ c, ps0_z]
theorem p1_z3 (s : Nat) : P1.z.getD s 0 ≠ 3 := by
  rw [p1_zg]
  split <;> omega
theorem p1_z2 (s : Nat) (h : P1.z.getD s 0 = 2) : s = 1 := by
  rw [p1_zg] at h
  by_cases c : s = 1
  · exact c
  · rw [if_neg c] at h; omega
theorem p1_i (s : Nat) (hs : s < 32) : P1.i.getD s false = false := by
  have e : P1.i = ps0.i.set 1 false := by rw [P1]
  have e2 : ps0.i = List.replicate 32 false := by rw [ps0]
  rw [e, e2]
  have : ∀ s, s < 32 → ((List.replicate 32 false).set 1 false).getD s false = false := by decide
  exact this s hs
theorem p1_alloc {f e : Nat} {p' : PS} (h : AllocIs P1 3 0 true f e p') : f = 33 ∧ e = 0 ∧ p' = P2 := by
  refine h.uniq (allocIs_2 (u := 3) (o := 0) (f := 33) (m := true) (by omega) (by omega) (fun _ x hx => p1_z3 _ hx.2.2.1) ⟨rfl, by omega, by rw [p1_zg]; rfl, p1_i _ (by omega), fun k h1 h2 => ?_⟩ fun x hx hr => ?_)
  · obtain rfl : k = 33 := by have : k < 33 + 1 := h2; omega
    rw [p1_u _ (by omega)]; rfl
  · have h1 := p1_z2 _ hr.2.2.1
    obtain rfl : x = 32 := by omega
    have h2 := hr.2.2.2.2 32 (Nat.le_refl _) (by decide)
    rw [p1_u _ (by omega)] at h2
    cases h2
theorem p2_use (f : Nat) (hf : f < 1024) : useP P2 (f : Int) = if f = 33 then 3 else if f = 32 then 6 else if 32 ≤ f ∧ f < 64 then 1 else 0 := by
  rw [useP_in _ hf]
  rw [show P2.u = spanU (fun _ => 3) P1.u 33 34 from by rw [P2], spanU_getD _ _ _ _ _ (by rw [p1_ul]; exact hf), p1_u f hf]
  by_cases c : f = 33
  · rw [if_pos (by omega), if_pos c]
  · rw [if_neg (by omega), if_neg c]

end Go.Proofs.Ytegoookllckhiaa
