/-
  PoolTwice answers true for any numbers.
  Conditions: none beside the pool's contracts.
-/
import Derived.Test.YtegoookllckhiaaPooL
namespace Go.Proofs.Ytegoookllckhiaa
open Go.RowKit
set_option linter.unusedVariables false
attribute [local irreducible] ps0 badU spanU

/-- No section is on line, no frame is there. -/
structure Is0 (p : PS) : Prop where
  ul : p.u.length = 1024
  zl : p.z.length = 32
  il : p.i.length = 32
  u : ∀ f, f < 1024 → p.u.getD f 0 = 0
  z : ∀ s, p.z.getD s 0 = 0
/-- Section s is on line, zone z; its frames from a up to i are used. -/
structure IsS (p : PS) (s z a i : Nat) : Prop where
  ul : p.u.length = 1024
  zl : p.z.length = 32
  il : p.i.length = 32
  u : ∀ f, f < 1024 → p.u.getD f 0 = if 32 * s + a ≤ f ∧ f < 32 * s + i then 2 else if 32 * s ≤ f ∧ f < 32 * s + 32 then 1 else 0
  z : ∀ t, p.z.getD t 0 = if t = s then z else 0
  i : p.i.getD s false = false
theorem is0_new : Is0 ps0 := ⟨ps0_ul, by rw [ps0_ze]; exact List.length_replicate, by rw [ps0]; exact List.length_replicate, fun f _ => ps0_u f, ps0_z⟩
theorem Is0.on {p p' : PS} {s z e : Nat} (h : Is0 p) (hs : s < 32) (hz : z = 2 ∨ z = 3) (ho : onP p (s : Int) (z : Int) [] = (e, p')) : e = 0 ∧ IsS p' s z 0 0 := by
  rw [onP_new hs hz (h.z s)] at ho
  injection ho with h4 h5
  subst h4 h5
  refine ⟨rfl, ⟨by show (badU s (spanU freshG p.u (32 * s) (32 * s + 32)) []).length = 1024; rw [badU_length, spanU_length, h.ul], by show (p.z.set s z).length = 32; rw [List.length_set, h.zl], by show (p.i.set s false).length = 32; rw [List.length_set, h.il], fun f hf => ?_, fun t => ?_, ?_⟩⟩
  · have e := on_clean (p := p) (s := s) h.ul hf
    rw [h.u f hf] at e
    refine e.trans ?_
    rw [if_neg (by omega : ¬ (32 * s + 0 ≤ f ∧ f < 32 * s + 0))]
    by_cases c : 32 * s ≤ f ∧ f < 32 * s + 32
    · rw [if_pos c, if_pos c]
      unfold freshG
      rw [if_neg (by omega)]
    · rw [if_neg c, if_neg c]
  · show (p.z.set s z).getD t 0 = _
    by_cases c : t = s
    · subst c
      rw [if_pos rfl, getD_set_same _ _ _ _ (by rw [h.zl]; exact hs)]
    · rw [if_neg c, getD_set_ne _ _ _ _ _ c, h.z]
  · show (p.i.set s false).getD s false = false
    rw [getD_set_same _ _ _ _ (by rw [h.il]; exact hs)]
theorem IsS.there {p : PS} {s z a i : Nat} (h : IsS p s z a i) (hs : s < 32) (hz : z ≠ 0) : onP p (s : Int) 3 [] = (3, p) := by
  unfold onP
  rw [if_neg (by omega), Int.toNat_natCast, h.z, if_pos rfl, if_pos hz]
theorem IsS.run {p : PS} {s a i f : Nat} (h : IsS p s 2 a i) (hf : f < 1024) (hi : i ≤ 32) : RunF p 2 (2 ^ 0) f ↔ 32 * s ≤ f ∧ f < 32 * s + 32 ∧ ¬ (32 * s + a ≤ f ∧ f < 32 * s + i) := by
  constructor
  · rintro ⟨_, _, hz, hii, hk⟩
    rw [h.z] at hz
    have hs : f / 32 = s := by
      by_cases c : f / 32 = s
      · exact c
      · rw [if_neg c] at hz; omega
    have := hk f (Nat.le_refl _) (by show f < f + 1; omega)
    rw [h.u f hf] at this
    refine ⟨by omega, by omega, fun c => ?_⟩
    rw [if_pos c] at this
    omega
  · rintro ⟨h1, h2, h3⟩
    have hs : f / 32 = s := by omega
    refine ⟨Nat.mod_one f, hf, by rw [hs, h.z, if_pos rfl], by rw [hs, h.i], fun k k1 k2 => ?_⟩
    obtain rfl : k = f := by have : k < f + 1 := k2; omega
    rw [h.u k hf, if_neg h3, if_pos ⟨h1, h2⟩]
theorem IsS.take {p p' : PS} {s i f e : Nat} (h : IsS p s 2 0 i) (hs : s < 32) (hi : i < 32) (ha : AllocIs p 2 0 false f e p') : IsS p' s 2 0 (i + 1) := by
  obtain ⟨_, _, rfl⟩ := ha.uniq (allocIs_2 (u := 2) (o := 0) (f := 32 * s + i) (by omega) (by omega) (fun h => (by cases h)) ((h.run (by omega) (by omega)).2 ⟨by omega, by omega, by omega⟩) fun x hx hr => by
    have := (h.run (by omega) (by omega)).1 hr
    omega)
  refine ⟨by show (spanU (fun _ => 2) p.u (32 * s + i) (32 * s + i + 1)).length = 1024; rw [spanU_length]; exact h.ul, h.zl, h.il, fun f hf => ?_, h.z, h.i⟩
  show (spanU (fun _ => 2) p.u (32 * s + i) (32 * s + i + 1)).getD f 0 = _
  rw [spanU_getD _ _ _ _ _ (by rw [h.ul]; exact hf), h.u f hf]
  by_cases c : f = 32 * s + i
  · rw [if_pos (by omega), if_pos (by omega)]
  · rw [if_neg (by omega)]
    by_cases c2 : 32 * s + 0 ≤ f ∧ f < 32 * s + i
    · rw [if_pos c2, if_pos (show 32 * s + 0 ≤ f ∧ f < 32 * s + (i + 1) by omega)]
    · rw [if_neg c2, if_neg (show ¬ (32 * s + 0 ≤ f ∧ f < 32 * s + (i + 1)) by omega)]
theorem IsS.busy {p : PS} {s i : Nat} (h : IsS p s 2 0 i) (hs : s < 32) (h1 : 0 < i) (hi : i ≤ 32) : offP p (s : Int) = (5, p) := by
  have hb : busyU p.u s = true := by
    cases hb : busyU p.u s with
    | true => rfl
    | false =>
      have := busyU_no.1 hb 0 (by omega)
      rw [h.u _ (by omega), if_pos (by omega)] at this
      omega
  unfold offP
  rw [if_neg (by omega), Int.toNat_natCast, h.z, if_pos rfl, if_neg (by omega), if_pos hb]
theorem IsS.free_ {p : PS} {s j i : Nat} (h : IsS p s 2 j i) (hs : s < 32) (hj : j < i) (hi : i ≤ 32) : IsS (freeP p ((32 * s + j : Nat) : Int)).2 s 2 (j + 1) i := by
  have hu : useP p ((32 * s + j : Nat) : Int) = 2 := by rw [useP_in p (by omega), h.u _ (by omega), if_pos (by omega)]
  have e : freeP p ((32 * s + j : Nat) : Int) = (true, ⟨p.u.set (32 * s + j) 1, p.z, p.i⟩) := by
    rw [freeP, if_pos (by rw [hu]; omega), Int.toNat_natCast]
  rw [e]
  refine ⟨by show (p.u.set (32 * s + j) 1).length = 1024; rw [List.length_set]; exact h.ul, h.zl, h.il, fun f hf => ?_, h.z, h.i⟩
  show (p.u.set (32 * s + j) 1).getD f 0 = _
  by_cases c : f = 32 * s + j
  · subst c
    rw [getD_set_same _ _ _ _ (by rw [h.ul]; omega), if_neg (by omega), if_pos (by omega)]
  · rw [getD_set_ne _ _ _ _ _ c, h.u f hf]
    by_cases c2 : 32 * s + j ≤ f ∧ f < 32 * s + i
    · rw [if_pos c2, if_pos (show 32 * s + (j + 1) ≤ f ∧ f < 32 * s + i by omega)]
    · rw [if_neg c2, if_neg (show ¬ (32 * s + (j + 1) ≤ f ∧ f < 32 * s + i) by omega)]
theorem IsS.off {p p' : PS} {s i e : Nat} (h : IsS p s 2 i i) (hs : s < 32) (ho : offP p (s : Int) = (e, p')) : e = 0 ∧ Is0 p' := by
  have hu : ∀ f, f < 1024 → p.u.getD f 0 = if 32 * s ≤ f ∧ f < 32 * s + 32 then 1 else 0 := fun f hf => by rw [h.u f hf, if_neg (by omega)]
  have hb : busyU p.u s = false := busyU_no.2 fun j hj => by rw [hu _ (by omega), if_pos (by omega)]; exact .inl rfl
  have e1 : offP p (s : Int) = (0, ⟨spanU goneG p.u (32 * s) (32 * s + 32), p.z.set s 0, p.i.set s false⟩) := by
    unfold offP
    rw [if_neg (by omega), Int.toNat_natCast, h.z, if_pos rfl, if_neg (by omega), if_neg (by rw [hb]; simp)]
  rw [e1] at ho
  injection ho with h4 h5
  subst h4 h5
  refine ⟨rfl, ⟨by show (spanU goneG p.u (32 * s) (32 * s + 32)).length = 1024; rw [spanU_length, h.ul], by show (p.z.set s 0).length = 32; rw [List.length_set, h.zl], by show (p.i.set s false).length = 32; rw [List.length_set, h.il], fun f hf => ?_, fun t => ?_⟩⟩
  · show (spanU goneG p.u (32 * s) (32 * s + 32)).getD f 0 = 0
    rw [spanU_getD _ _ _ _ _ (by rw [h.ul]; exact hf), hu f hf]
    by_cases c : 32 * s ≤ f ∧ f < 32 * s + 32
    · rw [if_pos c, if_pos c]; rfl
    · rw [if_neg c, if_neg c]
  · show (p.z.set s 0).getD t 0 = 0
    by_cases c : t = s
    · subst c
      rw [getD_set_same _ _ _ _ (by rw [h.zl]; exact hs)]
    · rw [getD_set_ne _ _ _ _ _ c, h.z, if_neg c]
theorem Is0.off2 {p : PS} {s : Nat} (h : Is0 p) (hs : s < 32) : offP p (s : Int) = (2, p) := by
  unfold offP
  rw [if_neg (by omega), Int.toNat_natCast, h.z, if_pos rfl]
theorem IsS.zone {p : PS} {s z a i : Nat} (h : IsS p s z a i) (hs : s < 32) : zoneP p (s : Int) = z := by rw [zoneP_in p hs, h.z, if_pos rfl]
theorem IsS.count {p : PS} {s z : Nat} (h : IsS p s z 0 0) (hs : s < 32) : countP p (s : Int) 1 = 32 := by
  rw [countP, if_pos ⟨by omega, by omega⟩, Int.toNat_natCast]
  refine cntU_all 32 fun j hj => ?_
  rw [h.u _ (by omega), if_neg (by omega), if_pos (by omega)]
  rfl
end Go.Proofs.Ytegoookllckhiaa
