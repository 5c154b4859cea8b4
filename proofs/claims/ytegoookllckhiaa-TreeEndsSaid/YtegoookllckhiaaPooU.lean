/-
  A pool that a statement holds, of which a thing is known: its calls; PoolTwice's walk.
  Conditions: none beside the pool's contracts.
-/
import Derived.Test.YtegoookllckhiaaPooT
namespace Go.Proofs.Ytegoookllckhiaa
open Go.RowKit
set_option linter.unusedVariables false
attribute [local irreducible] ps0 badU spanU

/-- The pool in block gS was made since w0, and Q holds of it. -/
def St (w0 w : World) (gS : Nat) (Q : PS → Prop) : Prop := ∃ K p, PoolMem w gS K p ∧ Q p ∧ (∀ k, K k → w0.heap.size ≤ k) ∧ Below w0.heap.size w0 w
section
variable {w0 w w' : World} {gS : Nat} {Q R : PS → Prop}
theorem St.bel (h : St w0 w gS Q) : Below w0.heap.size w0 w := by obtain ⟨_, _, _, _, _, hb⟩ := h; exact hb
theorem St.fresh (h : St w0 w gS Q) (hb : Below w.heap.size w w') : St w0 w' gS Q := by
  obtain ⟨K, p, hm, hq, hk, hB⟩ := h
  exact ⟨K, p, hm.fresh hb, hq, hk, hB.trans (hb.mono hB.size)⟩
theorem St.post {K : Nat → Prop} {v : Value} {p' : PS} {e : Ending} (hk : ∀ k, K k → w0.heap.size ≤ k) (hB : Below w0.heap.size w0 w) (h : PoolPost w gS K v p' e w') (hr : R p') : e = .returned v ∧ St w0 w' gS R := by
  obtain ⟨K', rfl, hm, hk', ht⟩ := h
  exact ⟨rfl, K', p', hm, hr, fun k hk2 => (hk' k hk2).elim (hk k) (fun h => Nat.le_trans hB.size h), hB.trans (ht.below hk hB.size)⟩
theorem st_new (hq : Q ps0) (w : World) (hb : Below w0.heap.size w0 w) :
    Calls Try.prog 21 #[] w fun e w' => ∃ gS, e = .returned (.pointer (some ⟨gS, 0, none⟩)) ∧ St w0 w' gS Q := by
  refine (pool_new w).mono ?_
  rintro e w1 ⟨gS, K, rfl, hm, hk, hb1⟩
  exact ⟨gS, rfl, K, ps0, hm, hq, fun k h => Nat.le_trans hb.size (hk k h), hb.trans (hb1.mono hb.size)⟩
theorem st_online (er : Nat) (s z : Int) (h : St w0 w gS Q) (hq : ∀ p, Q p → ∃ p', onP p s z [] = (er, p') ∧ R p') :
    Calls Try.prog 23 #[.pointer (some ⟨gS, 0, none⟩), .int .i64 s, .int .i64 z, .slice none 0 0] w fun e w' => e = .returned (.int .i64 (er : Int)) ∧ St w0 w' gS R := by
  obtain ⟨K, p, hm, hp, hk, hB⟩ := h
  obtain ⟨p', e1, hr⟩ := hq p hp
  refine (pool_online gS K p s z (.slice none 0 0) [] w hm (Its.nil_ _ _) (fun b o s n c e => (by injection e with e; cases e))).mono ?_
  intro e w' hpost
  rw [e1] at hpost
  exact St.post hk hB hpost hr
theorem st_alloc (use o : Int) (m : Bool) {V : Nat → Nat → PS → Prop} (h : St w0 w gS Q) (hq : ∀ p f er p', Q p → AllocIs p use o m f er p' → V f er p') :
    Calls Try.prog 48 #[.pointer (some ⟨gS, 0, none⟩), .int .i64 use, .int .i64 o, .bool m] w fun e w' => ∃ f er : Nat, e = .returned (.tuple #[.int .i64 (f : Int), .int .i64 (er : Int)]) ∧ St w0 w' gS (V f er) := by
  obtain ⟨K, p, hm, hp, hk, hB⟩ := h
  refine (pool_alloc gS K p use o m w hm).mono ?_
  rintro e w' ⟨f, er, p', ha, hpost⟩
  exact ⟨f, er, St.post hk hB hpost (hq p f er p' hp ha)⟩
theorem st_free (f : Int) {V : Bool → PS → Prop} (h : St w0 w gS Q) (hq : ∀ p, Q p → V (freeP p f).1 (freeP p f).2) :
    Calls Try.prog 59 #[.pointer (some ⟨gS, 0, none⟩), .int .i64 f] w fun e w' => ∃ b : Bool, e = .returned (.bool b) ∧ St w0 w' gS (V b) := by
  obtain ⟨K, p, hm, hp, hk, hB⟩ := h
  refine (pool_free gS K p f w hm).mono ?_
  intro e w' hpost
  exact ⟨_, St.post hk hB hpost (hq p hp)⟩
theorem st_spoil (f : Int) {V : Bool → PS → Prop} (h : St w0 w gS Q) (hq : ∀ p, Q p → V (spoilP p f).1 (spoilP p f).2) :
    Calls Try.prog 19 #[.pointer (some ⟨gS, 0, none⟩), .int .i64 f] w fun e w' => ∃ b : Bool, e = .returned (.bool b) ∧ St w0 w' gS (V b) := by
  obtain ⟨K, p, hm, hp, hk, hB⟩ := h
  refine (pool_spoil gS K p f w hm).mono ?_
  intro e w' hpost
  exact ⟨_, St.post hk hB hpost (hq p hp)⟩
theorem st_zone (z : Nat) (s : Int) (h : St w0 w gS Q) (hq : ∀ p, Q p → zoneP p s = z) :
    Calls Try.prog 44 #[.pointer (some ⟨gS, 0, none⟩), .int .i64 s] w fun e w' => e = .returned (.int .i64 (z : Int)) ∧ St w0 w' gS Q := by
  have h' := h
  obtain ⟨K, p, hm, hp, hk, hB⟩ := h
  refine (pool_zone gS K p s w hm).mono ?_
  rintro e w' ⟨rfl, hb⟩
  rw [hq p hp]
  exact ⟨rfl, h'.fresh hb⟩
theorem st_use (f : Int) {V : Nat → PS → Prop} (h : St w0 w gS Q) (hq : ∀ p, Q p → V (useP p f) p) :
    Calls Try.prog 17 #[.pointer (some ⟨gS, 0, none⟩), .int .i64 f] w fun e w' => ∃ y : Nat, e = .returned (.int .i64 (y : Int)) ∧ St w0 w' gS (V y) := by
  obtain ⟨K, p, hm, hp, hk, hB⟩ := h
  refine (pool_use gS K p f w hm).mono ?_
  rintro e w' ⟨rfl, hb⟩
  exact ⟨_, rfl, K, p, hm.fresh hb, hq p hp, hk, hB.trans (hb.mono hB.size)⟩
theorem st_count (s v : Int) {V : Nat → PS → Prop} (h : St w0 w gS Q) (hq : ∀ p, Q p → V (countP p s v) p) :
    Calls Try.prog 27 #[.pointer (some ⟨gS, 0, none⟩), .int .i64 s, .int .i64 v] w fun e w' => ∃ y : Nat, e = .returned (.int .i64 (y : Int)) ∧ St w0 w' gS (V y) := by
  obtain ⟨K, p, hm, hp, hk, hB⟩ := h
  refine (pool_count gS K p s v w hm).mono ?_
  rintro e w' ⟨rfl, hb⟩
  exact ⟨_, rfl, K, p, hm.fresh hb, hq p hp, hk, hB.trans (hb.mono hB.size)⟩
theorem St.weak (h : St w0 w gS Q) (hq : ∀ p, Q p → R p) : St w0 w gS R := by
  obtain ⟨K, p, hm, hp, hk, hB⟩ := h
  exact ⟨K, p, hm, hq p hp, hk, hB⟩
theorem St.and_ {P : Prop} (h : St w0 w gS (fun p => P ∧ Q p)) : P ∧ St w0 w gS Q := by
  obtain ⟨K, p, hm, hp, hk, hB⟩ := h
  exact ⟨hp.1, K, p, hm, hp.2, hk, hB⟩
end
end Go.Proofs.Ytegoookllckhiaa
