/-
  PoolRuns's lists: one section, some of it bad; a run that is taken, and given back.
  Conditions: none beside those that each line bears.
-/
import Derived.Test.YtkpjimpjopbdkaaPooU
namespace Go.Proofs.Ytkpjimpjopbdkaa
open Go.RowKit
set_option linter.unusedVariables false
attribute [local irreducible] ps0 badU spanU

/-- Section 2 is on line, Normal; its frames are free or bad. -/
structure IsR (p : PS) : Prop where
  ul : p.u.length = 1024
  zl : p.z.length = 32
  out : ∀ f, f < 1024 → ¬ (64 ≤ f ∧ f < 96) → p.u.getD f 0 = 0
  in_ : ∀ f, 64 ≤ f → f < 96 → p.u.getD f 0 = 1 ∨ p.u.getD f 0 = 6
  z : ∀ t, p.z.getD t 0 = if t = 2 then 2 else 0
/-- As q was, but for the frames from a up to b, that are used. -/
structure IsT (p q : PS) (a b : Nat) : Prop where
  ul : p.u.length = 1024
  u : ∀ f, f < 1024 → p.u.getD f 0 = if a ≤ f ∧ f < b then 5 else q.u.getD f 0
theorem IsS.rr {p : PS} (h : IsS p 2 2 0 0) : IsR p := ⟨h.ul, h.zl, fun f hf c => by rw [h.u f hf, if_neg (by omega), if_neg (by omega)], fun f h1 h2 => by rw [h.u f (by omega), if_neg (by omega), if_pos (by omega)]; exact .inl rfl, h.z⟩
theorem IsR.spoil {p : PS} {f : Nat} (h : IsR p) (h1 : 64 ≤ f) (h2 : f < 96) : IsR (spoilP p (f : Int)).2 := by
  unfold spoilP
  split
  · rw [Int.toNat_natCast]
    refine ⟨by show (p.u.set f 6).length = 1024; rw [List.length_set]; exact h.ul, h.zl, fun x hx c => ?_, fun x x1 x2 => ?_, h.z⟩
    · show (p.u.set f 6).getD x 0 = 0
      rw [getD_set_ne _ _ _ _ _ (by omega), h.out x hx c]
    · show (p.u.set f 6).getD x 0 = 1 ∨ (p.u.set f 6).getD x 0 = 6
      by_cases c : x = f
      · subst c
        rw [getD_set_same _ _ _ _ (by rw [h.ul]; omega)]
        exact .inr rfl
      · rw [getD_set_ne _ _ _ _ _ c]
        exact h.in_ x x1 x2
  · exact h
theorem IsR.alloc {p p' : PS} {o f e : Nat} (h : IsR p) (ho : o ≤ 5) (ha : AllocIs p 5 (o : Int) false f e p') :
    (e = 4 ∧ p' = p) ∨ (e = 0 ∧ f % 2 ^ o = 0 ∧ 64 ≤ f ∧ f + 2 ^ o ≤ 96 ∧ IsT p' p f (f + 2 ^ o) ∧ ∀ k, f ≤ k → k < f + 2 ^ o → p.u.getD k 0 = 1) := by
  rcases ha with ⟨h1, _⟩ | ⟨_, r3, r2, _, h2, hm⟩
  · omega
  · rw [Int.toNat_natCast] at h2
    cases r2 with
    | none => exact .inl ⟨hm.2.1, hm.2.2⟩
    | some g =>
      obtain ⟨h3, h4, h5⟩ : f = g ∧ e = 0 ∧ p' = ⟨spanU (fun _ => 5) p.u g (g + 2 ^ o), p.z, p.i⟩ := hm
      subst h3 h4 h5
      obtain ⟨⟨m1, m2, m3, m4, m5⟩, _⟩ := h2
      have hz : f / 32 = 2 := by
        rw [h.z] at m3
        by_cases c : f / 32 = 2
        · exact c
        · rw [if_neg c] at m3; omega
      have hp : 0 < 2 ^ o := Nat.pow_pos (by omega)
      have hl : f + 2 ^ o ≤ 96 := by
        apply Classical.byContradiction
        intro hc
        have e1 := m5 96 (by omega) (by omega)
        rw [h.out 96 (by omega) (by omega)] at e1
        omega
      refine .inr ⟨rfl, m1, by omega, hl, ⟨by show (spanU (fun _ => 5) p.u f (f + 2 ^ o)).length = 1024; rw [spanU_length]; exact h.ul, fun x hx => ?_⟩, m5⟩
      show (spanU (fun _ => 5) p.u f (f + 2 ^ o)).getD x 0 = _
      rw [spanU_getD _ _ _ _ _ (by rw [h.ul]; exact hx)]
theorem IsT.cnt {p q : PS} {a b : Nat} (h : IsT p q a b) (h1 : ∀ k, a ≤ k → k < b → q.u.getD k 0 = 1) (h64 : 64 ≤ a) (hab : a ≤ b) : ∀ n, n ≤ 32 → cntU p.u 1 64 n + (min b (64 + n) - min a (64 + n)) = cntU q.u 1 64 n := by
  intro n
  induction n with
  | zero => intro _; show 0 + _ = 0; omega
  | succ n ih =>
    intro hn
    have e := ih (by omega)
    rw [cntU_succ, cntU_succ, h.u _ (by omega)]
    by_cases c : a ≤ 64 + n ∧ 64 + n < b
    · have := h1 (64 + n) c.1 c.2
      rw [if_pos c, this, if_neg (by omega), if_pos (show ((1 : Nat) : Int) = 1 from rfl)]
      omega
    · rw [if_neg c]
      omega
theorem IsT.count {p q : PS} {a b : Nat} (h : IsT p q a b) (h1 : ∀ k, a ≤ k → k < b → q.u.getD k 0 = 1) (h64 : 64 ≤ a) (hab : a ≤ b) (hb : b ≤ 96) : countP p 2 1 + (b - a) = countP q 2 1 := by
  have e := h.cnt h1 h64 hab 32 (by omega)
  rw [countP, if_pos ⟨by omega, by omega⟩, countP, if_pos ⟨by omega, by omega⟩]
  show cntU p.u 1 64 32 + (b - a) = cntU q.u 1 64 32
  omega
theorem IsT.use {p q : PS} {a b : Nat} (h : IsT p q a b) (hab : a < b) (hb : b ≤ 96) : useP p (a : Int) = 5 := by rw [useP_in p (by omega), h.u _ (by omega), if_pos ⟨Nat.le_refl _, hab⟩]
theorem IsT.free_ {p q : PS} {a b : Nat} (h : IsT p q a b) (h1 : ∀ k, a ≤ k → k < b → q.u.getD k 0 = 1) (hab : a < b) (hb : b ≤ 96) : (freeP p (a : Int)).1 = true ∧ IsT (freeP p (a : Int)).2 q (a + 1) b := by
  have e : freeP p (a : Int) = (true, ⟨p.u.set a 1, p.z, p.i⟩) := by
    rw [freeP, if_pos (by rw [h.use hab hb]; omega), Int.toNat_natCast]
  rw [e]
  refine ⟨rfl, ⟨by show (p.u.set a 1).length = 1024; rw [List.length_set]; exact h.ul, fun f hf => ?_⟩⟩
  show (p.u.set a 1).getD f 0 = _
  by_cases c : f = a
  · subst c
    rw [getD_set_same _ _ _ _ (by rw [h.ul]; omega), if_neg (by omega), h1 f (Nat.le_refl _) hab]
  · rw [getD_set_ne _ _ _ _ _ c, h.u f hf]
    by_cases c2 : a ≤ f ∧ f < b
    · rw [if_pos c2, if_pos (show a + 1 ≤ f ∧ f < b by omega)]
    · rw [if_neg c2, if_neg (show ¬ (a + 1 ≤ f ∧ f < b) by omega)]
theorem IsT.again {p q : PS} {a b : Nat} (h : IsT p q (a + 1) b) (h1 : q.u.getD a 0 = 1) (ha : a < 96) : freeP p (a : Int) = (false, p) := by
  have hu : useP p (a : Int) = 1 := by rw [useP_in p (by omega), h.u _ (by omega), if_neg (by omega), h1]
  rw [freeP, if_neg (by rw [hu]; omega)]
end Go.Proofs.Ytkpjimpjopbdkaa
