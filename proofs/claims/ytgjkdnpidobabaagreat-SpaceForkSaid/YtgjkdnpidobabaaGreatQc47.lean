/-
  A pool of which the first sections of each zone are on line: how many frames are free.
  Conditions: those that each line bears.
-/
import Derived.Test.YtgjkdnpidobabaaGreatQc05
import Derived.Test.YtgjkdnpidobabaaGreatQc00
import Derived.KernelRfl
set_option linter.unusedSimpArgs false
set_option linter.unusedSectionVars false
set_option linter.unusedVariables false
namespace Go.Proofs.YtgjkdnpidobabaaGreat
open Go.RowKit
set_option linter.unusedVariables false

structure OnS (p : PS) (a b : Nat) : Prop where
  ul : p.u.length = 1024
  zl : p.z.length = 32
  il : p.i.length = 32
  z : ∀ s, s < 32 → p.z.getD s 0 = if s < a then 2 else if 16 ≤ s ∧ s < 16 + b then 3 else 0
  i : ∀ s, p.i.getD s false = false
  u : ∀ f, f < 1024 → p.u.getD f 0 = if f / 32 < a ∨ (16 ≤ f / 32 ∧ f / 32 < 16 + b) then 1 else 0
theorem onS_new : OnS ps0 0 0 := ⟨by rw [ps0]; exact List.length_replicate, by rw [ps0]; exact List.length_replicate, by rw [ps0]; exact List.length_replicate, fun s hs => by rw [ps0_z, if_neg (by omega), if_neg (by omega)], ps0_i, fun f hf => by rw [ps0_u, if_neg (by omega)]⟩
theorem OnS.put {p : PS} {a b s z : Nat} (h : OnS p a b) (hs : s < 32) (hz : z = 2 ∨ z = 3) (h0 : p.z.getD s 0 = 0) (hf0 : ∀ f, 32 * s ≤ f → f < 32 * s + 32 → p.u.getD f 0 = 0) :
    ∃ p', onP p (s : Int) (z : Int) [] = (0, p') ∧ p'.u.length = 1024 ∧ p'.z.length = 32 ∧ p'.i.length = 32 ∧ (∀ t, p'.z.getD t 0 = if t = s then z else p.z.getD t 0) ∧ (∀ t, p'.i.getD t false = false) ∧
      (∀ f, f < 1024 → p'.u.getD f 0 = if 32 * s ≤ f ∧ f < 32 * s + 32 then 1 else p.u.getD f 0) := by
  refine ⟨_, onP_new hs hz h0, ?_, ?_, ?_, fun t => ?_, fun t => ?_, fun f hf => ?_⟩
  · show (badU s (spanU freshG p.u (32 * s) (32 * s + 32)) []).length = 1024
    rw [badU_length, spanU_length, h.ul]
  · show (p.z.set s z).length = 32
    rw [List.length_set, h.zl]
  · show (p.i.set s false).length = 32
    rw [List.length_set, h.il]
  · show (p.z.set s z).getD t 0 = _
    by_cases c : t = s
    · subst c
      rw [if_pos rfl, getD_set_same _ _ _ _ (by rw [h.zl]; exact hs)]
    · rw [if_neg c, getD_set_ne _ _ _ _ _ c]
  · show (p.i.set s false).getD t false = false
    by_cases c : t = s
    · subst c
      rw [getD_set_same _ _ _ _ (by rw [h.il]; exact hs)]
    · rw [getD_set_ne _ _ _ _ _ c, h.i]
  · refine (on_clean (p := p) (s := s) h.ul hf).trans ?_
    by_cases c : 32 * s ≤ f ∧ f < 32 * s + 32
    · rw [if_pos c, if_pos c, hf0 f c.1 c.2]
      rfl
    · rw [if_neg c, if_neg c]
theorem OnS.normal {p : PS} {a : Nat} (h : OnS p a 0) (ha : a < 16) : ∃ p', onP p (a : Int) 2 [] = (0, p') ∧ OnS p' (a + 1) 0 := by
  obtain ⟨p', e, h1, h2, h3, h4, h5, h6⟩ := h.put (s := a) (z := 2) (by omega) (.inl rfl) (by rw [h.z a (by omega), if_neg (by omega), if_neg (by omega)]) (fun f h1 h2 => by rw [h.u f (by omega), if_neg (by omega)])
  refine ⟨p', e, h1, h2, h3, fun s hs => ?_, h5, fun f hf => ?_⟩
  · rw [h4, h.z s hs]
    by_cases c : s = a
    · rw [if_pos c, if_pos (by omega)]
    · rw [if_neg c]
      by_cases d : s < a
      · rw [if_pos d, if_pos (by omega)]
      · rw [if_neg d, if_neg (by omega : ¬ s < a + 1)]
  · rw [h6 f hf, h.u f hf]
    by_cases c : 32 * a ≤ f ∧ f < 32 * a + 32
    · rw [if_pos c, if_pos (by omega)]
    · rw [if_neg c]
      by_cases d : f / 32 < a
      · rw [if_pos (.inl d), if_pos (by omega)]
      · rw [if_neg (by omega), if_neg (by omega)]
theorem OnS.movable {p : PS} {a b : Nat} (h : OnS p a b) (ha : a ≤ 16) (hb : b < 16) : ∃ p', onP p ((16 + b : Nat) : Int) 3 [] = (0, p') ∧ OnS p' a (b + 1) := by
  obtain ⟨p', e, h1, h2, h3, h4, h5, h6⟩ := h.put (s := 16 + b) (z := 3) (by omega) (.inr rfl) (by rw [h.z (16 + b) (by omega), if_neg (by omega), if_neg (by omega)]) (fun f h1 h2 => by rw [h.u f (by omega), if_neg (by omega)])
  refine ⟨p', e, h1, h2, h3, fun s hs => ?_, h5, fun f hf => ?_⟩
  · rw [h4, h.z s hs]
    by_cases c : s = 16 + b
    · rw [if_pos c, if_neg (by omega), if_pos (by omega)]
    · rw [if_neg c]
      by_cases d : s < a
      · rw [if_pos d, if_pos d]
      · rw [if_neg d, if_neg d]
        by_cases e : 16 ≤ s ∧ s < 16 + b
        · rw [if_pos e, if_pos (by omega)]
        · rw [if_neg e, if_neg (by omega)]
  · rw [h6 f hf, h.u f hf]
    by_cases c : 32 * (16 + b) ≤ f ∧ f < 32 * (16 + b) + 32
    · rw [if_pos c, if_pos (by omega)]
    · rw [if_neg c]
      by_cases d : f / 32 < a ∨ (16 ≤ f / 32 ∧ f / 32 < 16 + b)
      · rw [if_pos d, if_pos (by omega)]
      · rw [if_neg d, if_neg (by omega)]
theorem filter_len_congr {l : List Nat} {f g : Nat → Bool} (h : ∀ x ∈ l, f x = g x) : (l.filter f).length = (l.filter g).length := by
  rw [List.filter_congr h]
theorem lenN0 : ((List.range 1024).filter fun f => decide (f / 32 < 0)).length = 0 := by kernel_rfl
theorem lenN1 : ((List.range 1024).filter fun f => decide (f / 32 < 1)).length = 32 := by kernel_rfl
theorem lenN2 : ((List.range 1024).filter fun f => decide (f / 32 < 2)).length = 64 := by kernel_rfl
theorem lenN3 : ((List.range 1024).filter fun f => decide (f / 32 < 3)).length = 96 := by kernel_rfl
theorem lenN4 : ((List.range 1024).filter fun f => decide (f / 32 < 4)).length = 128 := by kernel_rfl
theorem lenN : ∀ a, a ≤ 4 → ((List.range 1024).filter fun f => decide (f / 32 < a)).length = 32 * a := by
  intro a ha
  have : a = 0 ∨ a = 1 ∨ a = 2 ∨ a = 3 ∨ a = 4 := by omega
  rcases this with rfl | rfl | rfl | rfl | rfl
  · exact lenN0
  · exact lenN1
  · exact lenN2
  · exact lenN3
  · exact lenN4
theorem lenM0 : ((List.range 1024).filter fun f => decide (16 ≤ f / 32 ∧ f / 32 < 16 + 0)).length = 0 := by kernel_rfl
theorem lenM1 : ((List.range 1024).filter fun f => decide (16 ≤ f / 32 ∧ f / 32 < 16 + 1)).length = 32 := by kernel_rfl
theorem lenM2 : ((List.range 1024).filter fun f => decide (16 ≤ f / 32 ∧ f / 32 < 16 + 2)).length = 64 := by kernel_rfl
theorem lenM3 : ((List.range 1024).filter fun f => decide (16 ≤ f / 32 ∧ f / 32 < 16 + 3)).length = 96 := by kernel_rfl
theorem lenM4 : ((List.range 1024).filter fun f => decide (16 ≤ f / 32 ∧ f / 32 < 16 + 4)).length = 128 := by kernel_rfl
theorem lenM : ∀ a, a ≤ 4 → ((List.range 1024).filter fun f => decide (16 ≤ f / 32 ∧ f / 32 < 16 + a)).length = 32 * a := by
  intro a ha
  have : a = 0 ∨ a = 1 ∨ a = 2 ∨ a = 3 ∨ a = 4 := by omega
  rcases this with rfl | rfl | rfl | rfl | rfl
  · exact lenM0
  · exact lenM1
  · exact lenM2
  · exact lenM3
  · exact lenM4
theorem OnS.cnt2 {p : PS} {a b : Nat} (h : OnS p a b) (ha : a ≤ 4) (hb : b ≤ 4) : cntF p 2 = 32 * a := by
  rw [← lenN a ha]
  refine filter_len_congr fun f hf => ?_
  have hf := List.mem_range.1 hf
  rw [h.u f hf, h.z _ (by omega), h.i]
  by_cases c : f / 32 < a
  · simp [c]
  · by_cases d : 16 ≤ f / 32 ∧ f / 32 < 16 + b
    · simp [c, d]
    · simp [c, d]
theorem OnS.cnt3 {p : PS} {a b : Nat} (h : OnS p a b) (ha : a ≤ 4) (hb : b ≤ 4) : cntF p 3 = 32 * b := by
  rw [← lenM b hb]
  refine filter_len_congr fun f hf => ?_
  have hf := List.mem_range.1 hf
  rw [h.u f hf, h.z _ (by omega), h.i]
  by_cases c : f / 32 < a
  · have : ¬ (16 ≤ f / 32 ∧ f / 32 < 16 + b) := by omega
    simp [c, this]
  · by_cases d : 16 ≤ f / 32 ∧ f / 32 < 16 + b
    · simp [c, d]
    · simp [c, d]
end Go.Proofs.YtgjkdnpidobabaaGreat

