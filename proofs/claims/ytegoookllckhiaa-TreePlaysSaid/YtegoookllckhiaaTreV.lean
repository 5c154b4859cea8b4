/-
  One tree, and a block of the statement's own that its calls leave as it is; ahead of TreePlays.
  Conditions: none beside the contracts of the tree.
-/
import Derived.Test.YtegoookllckhiaaTreB
import Derived.Test.YtegoookllckhiaaTreE
import Derived.StillTailTactics
namespace Go.Proofs.Ytegoookllckhiaa
open Go.RowKit
set_option linter.unusedVariables false
attribute [local irreducible] ps0 badU spanU

/-- A tree, live; no block that its work turns lies from B0 up to B1. -/
def TreV (w0 w : World) (gT gP : Nat) (p : PS) (s : TS) (n B0 B1 : Nat) : Prop :=
  ∃ gR gF F bad K KT, Mem w gR gF 1024 F bad ∧ PoolMem w gP K p ∧ TreeMem w gT KT gR gP F s ∧ Apart gR gF K KT ∧ (∀ k, K k ∨ KT k ∨ k = gF ∨ k = gR → w0.heap.size ≤ k ∧ (k < B0 ∨ B1 ≤ k)) ∧ Below w0.heap.size w0 w ∧ (∀ f ∈ s.t, p.u.getD f 0 = 2) ∧ NoBad bad ∧ AllN p ∧ Tot p s n ∧ B1 ≤ w.heap.size
section
variable {w0 w w' : World} {gT gP n B0 B1 : Nat} {p : PS} {s : TS}
theorem TreV.bel (h : TreV w0 w gT gP p s n B0 B1) : Below w0.heap.size w0 w := by
  obtain ⟨_, _, _, _, _, _, _, _, _, _, _, h, _⟩ := h
  exact h
theorem TreV.tot (h : TreV w0 w gT gP p s n B0 B1) : Tot p s n := by
  obtain ⟨_, _, _, _, _, _, _, _, _, _, _, _, _, _, _, h, _⟩ := h
  exact h
theorem TreV.ok (h : TreV w0 w gT gP p s n B0 B1) : TsOk s := by
  obtain ⟨_, _, _, _, _, _, _, _, h, _⟩ := h
  exact h.ok
theorem TreV.all (h : TreV w0 w gT gP p s n B0 B1) : AllN p := by
  obtain ⟨_, _, _, _, _, _, _, _, _, _, _, _, _, _, h, _⟩ := h
  exact h
theorem TreV.tab (h : TreV w0 w gT gP p s n B0 B1) : ∀ f ∈ s.t, p.u.getD f 0 = 2 := by
  obtain ⟨_, _, _, _, _, _, _, _, _, _, _, _, h, _⟩ := h
  exact h
theorem TreV.fresh (h : TreV w0 w gT gP p s n B0 B1) (hb : Below w.heap.size w w') : TreV w0 w' gT gP p s n B0 B1 := by
  obtain ⟨gR, gF, F, bad, K, KT, h1, h2, h3, h4, h5, h6, h7, h8, h9, h10, h11⟩ := h
  exact ⟨gR, gF, F, bad, K, KT, h1.below hb h1.lt.1 h1.lt.2, h2.fresh hb, h3.fresh hb, h4, h5, h6.trans (hb.mono h6.size), h7, h8, h9, h10, Nat.le_trans h11 hb.size⟩
theorem TreV.mid (h : TreV w0 w gT gP p s n B0 B1) (hb : Below w.heap.size w w') : TreV w0 w' gT gP p s n w.heap.size w'.heap.size := by
  obtain ⟨gR, gF, F, bad, K, KT, h1, h2, h3, h4, h5, h6, h7, h8, h9, h10, h11⟩ := h
  refine ⟨gR, gF, F, bad, K, KT, h1.below hb h1.lt.1 h1.lt.2, h2.fresh hb, h3.fresh hb, h4, fun k hk => ⟨(h5 k hk).1, .inl ?_⟩, h6.trans (hb.mono h6.size), h7, h8, h9, h10, Nat.le_refl _⟩
  rcases hk with hk | hk | hk | hk
  · exact h2.lt k hk
  · exact h3.lt k hk
  · rw [hk]; exact h1.lt.2
  · rw [hk]; exact h1.lt.1
theorem TreV.arr {g : Nat} (h : TreV w0 w gT gP p s n B0 B1) (hg0 : B0 ≤ g) (hg1 : g < B1) (hg2 : w0.heap.size ≤ g) (i : Nat) (v : Value) : TreV w0 (w.setCell ⟨g, i, none⟩ v) gT gP p s n B0 B1 := by
  have ho := (Only.refl g w).setCell i v
  obtain ⟨gR, gF, F, bad, K, KT, h1, h2, h3, h4, h5, h6, h7, h8, h9, h10, h11⟩ := h
  have hn : ∀ k, K k ∨ KT k ∨ k = gF ∨ k = gR → k ≠ g := fun k hk e => by have := (h5 k hk).2; omega
  have hfar : ∀ k, k ≠ g → k < w.heap.size → (w.setCell ⟨g, i, none⟩ v).heap[k]? = w.heap[k]? := fun k hk hl => ho.1.block k hl (fun e => hk (Option.some.inj e))
  exact ⟨gR, gF, F, bad, K, KT, h1.far (hfar _ (hn gR (.inr (.inr (.inr rfl)))) h1.lt.1) (hfar _ (hn gF (.inr (.inr (.inl rfl)))) h1.lt.2), h2.far (fun k hk => hfar k (hn k (.inl hk)) (h2.lt k hk)), h3.far (fun k hk => hfar k (hn k (.inr (.inl hk))) (h3.lt k hk)), h4, h5, h6.setCell (p := ⟨g, i, none⟩) hg2 v, h7, h8, h9, h10, by simpa using h11⟩
theorem tv_set (page k m : Int) (b : Bool) (h : TreV w0 w gT gP p s n B0 B1) :
    Calls Try.prog 12 #[.pointer (some ⟨gT, 0, none⟩), .int .i64 page, .agg #[.int .i64 k, .int .i64 m, .bool b]] w fun e w' => ∃ (er : Nat) (p' : PS) (s' : TS), e = .returned (.int .i64 (er : Int)) ∧ SetIs s p page ⟨k, m, b⟩ er s' p' ∧ TreV w0 w' gT gP p' s' n B0 B1 ∧ Mid B0 B1 w w' ∧ w.heap.size ≤ w'.heap.size := by
  obtain ⟨gR, gF, F, bad, K, KT, h1, h2, h3, h4, h5, h6, h7, h8, h9, h10, h11⟩ := h
  refine (tree_set gT gR gF gP K KT F bad p s w page k m b h1 h2 h3 h4 h8 h7 h10.live).mono ?_
  rintro e w' ⟨er, F', p', s', rfl, hs, K', KT', k1, k2, k3, k4, k5, k6, k7, k8⟩
  have hM : ∀ q, K q ∨ KT q ∨ q = gF → w0.heap.size ≤ q ∧ (q < B0 ∨ B1 ≤ q) := fun q hq => h5 q (by
    rcases hq with hq | hq | hq
    · exact .inl hq
    · exact .inr (.inl hq)
    · exact .inr (.inr (.inl hq)))
  have hK' : ∀ q, K' q → K q ∨ w.heap.size ≤ q := k5
  have hKT' : ∀ q, KT' q → KT q ∨ w.heap.size ≤ q := k6
  have hs0 := h6.size
  have htot := h10.set hs
  have hh : (∀ f ∈ s'.t, p'.u.getD f 0 = 2) ∧ AllN p' := by
    rcases hs with ⟨_, _, rfl, rfl⟩ | ⟨_, ⟨_, _, rfl, rfl⟩ | ⟨_, _, rfl, rfl, _⟩ | ⟨_, _, _, _, hst⟩⟩
    · exact ⟨h7, h9⟩
    · exact ⟨h7, h9⟩
    · exact ⟨h7, h9⟩
    · exact ⟨hst.tabs k3.ok.tlt, hst.all h9 h7⟩
  refine ⟨er, p', s', rfl, hs, ⟨gR, gF, F', bad, K', KT', k1, k2, k3, k4, ?_, h6.trans (k8.below (fun q hq => (hM q hq).1) hs0), hh.1, h8, hh.2, htot, Nat.le_trans h11 k8.size⟩, ?_, k8.size⟩
  · rintro q (hq | hq | hq)
    · rcases hK' q hq with h | h
      · exact h5 q (.inl h)
      · exact ⟨by omega, .inr (by omega)⟩
    · rcases hKT' q hq with h | h
      · exact h5 q (.inr (.inl h))
      · exact ⟨by omega, .inr (by omega)⟩
    · exact h5 q (.inr (.inr hq))
  · intro q q0 q1
    exact k8.block q (by omega) (fun hq => by have := (hM q hq).2; omega)
/-- The same behind things that were made since: they stay. -/
theorem tv_set2 {wa : World} (page k m : Int) (b : Bool) (h : TreV w0 wa gT gP p s n B0 B1) (hb : Below wa.heap.size wa w) :
    Calls Try.prog 12 #[.pointer (some ⟨gT, 0, none⟩), .int .i64 page, .agg #[.int .i64 k, .int .i64 m, .bool b]] w fun e w' => ∃ (er : Nat) (p' : PS) (s' : TS), e = .returned (.int .i64 (er : Int)) ∧ SetIs s p page ⟨k, m, b⟩ er s' p' ∧ TreV w0 w' gT gP p' s' n B0 B1 ∧ Mid B0 B1 w w' ∧ Mid wa.heap.size w.heap.size w w' ∧ w.heap.size ≤ w'.heap.size := by
  obtain ⟨gR, gF, F, bad, K, KT, h1, h2, h3, h4, h5, h6, h7, h8, h9, h10, h11⟩ := h
  have hlt : ∀ q, K q ∨ KT q ∨ q = gF → q < wa.heap.size := fun q hq => by
    rcases hq with hq | hq | hq
    · exact h2.lt q hq
    · exact h3.lt q hq
    · rw [hq]; exact h1.lt.2
  replace h1 := h1.below hb h1.lt.1 h1.lt.2
  replace h2 := h2.fresh hb
  replace h3 := h3.fresh hb
  replace h6 := h6.trans (hb.mono h6.size)
  replace h11 := Nat.le_trans h11 hb.size
  refine (tree_set gT gR gF gP K KT F bad p s w page k m b h1 h2 h3 h4 h8 h7 h10.live).mono ?_
  rintro e w' ⟨er, F', p', s', rfl, hs, K', KT', k1, k2, k3, k4, k5, k6, k7, k8⟩
  have hM : ∀ q, K q ∨ KT q ∨ q = gF → w0.heap.size ≤ q ∧ (q < B0 ∨ B1 ≤ q) := fun q hq => h5 q (by
    rcases hq with hq | hq | hq
    · exact .inl hq
    · exact .inr (.inl hq)
    · exact .inr (.inr (.inl hq)))
  have hK' : ∀ q, K' q → K q ∨ w.heap.size ≤ q := k5
  have hKT' : ∀ q, KT' q → KT q ∨ w.heap.size ≤ q := k6
  have hs0 := h6.size
  have htot := h10.set hs
  have hh : (∀ f ∈ s'.t, p'.u.getD f 0 = 2) ∧ AllN p' := by
    rcases hs with ⟨_, _, rfl, rfl⟩ | ⟨_, ⟨_, _, rfl, rfl⟩ | ⟨_, _, rfl, rfl, _⟩ | ⟨_, _, _, _, hst⟩⟩
    · exact ⟨h7, h9⟩
    · exact ⟨h7, h9⟩
    · exact ⟨h7, h9⟩
    · exact ⟨hst.tabs k3.ok.tlt, hst.all h9 h7⟩
  refine ⟨er, p', s', rfl, hs, ⟨gR, gF, F', bad, K', KT', k1, k2, k3, k4, ?_, h6.trans (k8.below (fun q hq => (hM q hq).1) hs0), hh.1, h8, hh.2, htot, Nat.le_trans h11 k8.size⟩, ?_, ?_, k8.size⟩
  · rintro q (hq | hq | hq)
    · rcases hK' q hq with h | h
      · exact h5 q (.inl h)
      · exact ⟨by omega, .inr (by omega)⟩
    · rcases hKT' q hq with h | h
      · exact h5 q (.inr (.inl h))
      · exact ⟨by omega, .inr (by omega)⟩
    · exact h5 q (.inr (.inr hq))
  · intro q q0 q1
    exact k8.block q (by omega) (fun hq => by have := (hM q hq).2; omega)
  · intro q q0 q1
    exact k8.block q q1 (fun hq => by have := hlt q hq; omega)
theorem tv_get (page : Nat) (hp : page < 4096) (h : TreV w0 w gT gP p s n B0 B1) :
    Calls Try.prog 18 #[.pointer (some ⟨gT, 0, none⟩), .int .i64 (page : Int)] w fun e w' => e = .returned (.tuple #[.agg (enV (s.e.getD page en0)), .int .i64 0]) ∧ Below w.heap.size w w' := by
  obtain ⟨gR, gF, F, bad, K, KT, h1, h2, h3, h4, h5, h6, h7, h8, h9, h10, h11⟩ := h
  exact tree_get gT gR gF gP KT F bad s w page hp h1 h3 h8 h10.live
theorem tv_get_out (page : Int) (hp : page < 0 ∨ 4095 < page) (h : TreV w0 w gT gP p s n B0 B1) :
    Calls Try.prog 18 #[.pointer (some ⟨gT, 0, none⟩), .int .i64 page] w fun e w' => e = .returned (.tuple #[.agg (enV en0), .int .i64 1]) ∧ Below w.heap.size w w' := by
  obtain ⟨gR, gF, F, bad, K, KT, h1, h2, h3, h4, h5, h6, h7, h8, h9, h10, h11⟩ := h
  exact tree_get_out gT gR gP KT F s w page hp h3 h10.live
theorem tv_tables (h : TreV w0 w gT gP p s n B0 B1) :
    Calls Try.prog 15 #[.pointer (some ⟨gT, 0, none⟩)] w fun e w' => ∃ v, e = .returned v ∧ Its w' w'.heap.size v (asI s.t) ∧ Below w.heap.size w w' := by
  obtain ⟨gR, gF, F, bad, K, KT, h1, h2, h3, h4, h5, h6, h7, h8, h9, h10, h11⟩ := h
  refine (tree_tables gT gR gP KT F s w h3).mono ?_
  rintro e w' ⟨v, rfl, k1, k2⟩
  exact ⟨v, rfl, Its.of_own k1, k2⟩
theorem tv_owns (f : Int) (h : TreV w0 w gT gP p s n B0 B1) :
    Calls Try.prog 16 #[.pointer (some ⟨gT, 0, none⟩), .int .i64 f] w fun e w' => e = .returned (.bool (decide (f ∈ asI s.t))) ∧ Below w.heap.size w w' := by
  obtain ⟨gR, gF, F, bad, K, KT, h1, h2, h3, h4, h5, h6, h7, h8, h9, h10, h11⟩ := h
  exact tree_owns gT gR gP KT F s w f h3
theorem tv_free (h : TreV w0 w gT gP p s n B0 B1) :
    Calls Try.prog 11 #[.pointer (some ⟨gP, 0, none⟩)] w fun e w' => e = .returned (.int .i64 ((freeU p.u 32 : Nat) : Int)) ∧ Below w.heap.size w w' := by
  obtain ⟨gR, gF, F, bad, K, KT, h1, h2, h3, h4, h5, h6, h7, h8, h9, h10, h11⟩ := h
  exact free_any gP K p w h2
theorem tv_use (f : Nat) (hf : f ∈ s.t) (h : TreV w0 w gT gP p s n B0 B1) :
    Calls Try.prog 17 #[.pointer (some ⟨gP, 0, none⟩), .int .i64 (f : Int)] w fun e w' => e = .returned (.int .i64 2) ∧ Below w.heap.size w w' := by
  have hu := h.tab f hf
  have hl := h.ok.tlt f hf
  obtain ⟨gR, gF, F, bad, K, KT, h1, h2, h3, h4, h5, h6, h7, h8, h9, h10, h11⟩ := h
  have := pool_use gP K p (f : Int) w h2
  rw [useP_in p hl, hu] at this
  exact this
theorem tv_new {gR gF : Nat} {F : Nat → List Nat} {bad : Nat → Bool} {m r : Nat} (h : PartsT w0 w gR gF gP F bad p) (hb : NoBad bad) (hm : OnN p m) (hm1 : m ≤ 32) (hr : FirstF p 2 (2 ^ 0) (some r)) :
    Calls Try.prog 10 #[.pointer (some ⟨gR, 0, none⟩), .pointer (some ⟨gP, 0, none⟩)] w fun e w' => ∃ gT p', e = .returned (.tuple #[.pointer (some ⟨gT, 0, none⟩), .int .i64 0]) ∧ TreV w0 w' gT gP p' ⟨List.replicate 4096 en0, [r], true⟩ (32 * m) w'.heap.size w'.heap.size := by
  refine (tt_new h hb hm.all hr).mono ?_
  rintro e w' ⟨gT, F', rfl, ⟨K, KT, h1, h2, h3, h4, h5, h6, h7, h8, h9⟩, ha⟩
  refine ⟨gT, _, rfl, gR, gF, F', bad, K, KT, h1, h2, h3, h4, fun k hk => ?_, h8, h9, hb, ha, Tot.new hm hm1 hr, Nat.le_refl _⟩
  rcases hk with hk | hk | hk | hk
  · exact ⟨h5 k (.inl hk), .inl (h2.lt k hk)⟩
  · exact ⟨h5 k (.inr hk), .inl (h3.lt k hk)⟩
  · rw [hk]; exact ⟨h7, .inl h1.lt.2⟩
  · rw [hk]; exact ⟨h6, .inl h1.lt.1⟩
end
end Go.Proofs.Ytegoookllckhiaa
