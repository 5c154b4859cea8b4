/-
  One tree over memory and a pool, all made since a statement began: its calls; the statements' own 'answers'; TreePages.
  Conditions: none beside the contracts of the tree.
-/
import Derived.Test.YtegoookllckhiaaTreI
import Derived.BigQuiet
namespace Go.Proofs.Ytegoookllckhiaa
open Go.RowKit
set_option linter.unusedVariables false
attribute [local irreducible] ps0 badU spanU

def TreT (w0 w : World) (gT gR gF gP : Nat) (F : Nat → List Nat) (bad : Nat → Bool) (p : PS) (s : TS) : Prop :=
  ∃ K KT, Mem w gR gF 1024 F bad ∧ PoolMem w gP K p ∧ TreeMem w gT KT gR gP F s ∧ Apart gR gF K KT ∧ (∀ k, K k ∨ KT k → w0.heap.size ≤ k) ∧ w0.heap.size ≤ gR ∧ w0.heap.size ≤ gF ∧ Below w0.heap.size w0 w ∧ (∀ f ∈ s.t, p.u.getD f 0 = 2)
/-- No frame is poisoned, and all that is free can be given. -/
def TreN (w0 w : World) (gT gP : Nat) (p : PS) (s : TS) : Prop := ∃ gR gF F bad, TreT w0 w gT gR gF gP F bad p s ∧ NoBad bad ∧ AllN p
section
variable {w0 w w' : World} {gT gR gF gP : Nat} {F : Nat → List Nat} {bad : Nat → Bool} {p : PS} {s : TS}
theorem TreT.fresh (h : TreT w0 w gT gR gF gP F bad p s) (hb : Below w.heap.size w w') : TreT w0 w' gT gR gF gP F bad p s := by
  obtain ⟨K, KT, h1, h2, h3, h4, h5, h6, h7, h8, h9⟩ := h
  exact ⟨K, KT, h1.below hb h1.lt.1 h1.lt.2, h2.fresh hb, h3.fresh hb, h4, h5, h6, h7, h8.trans (hb.mono h8.size), h9⟩
theorem TreT.bel (h : TreT w0 w gT gR gF gP F bad p s) : Below w0.heap.size w0 w := by
  obtain ⟨_, _, _, _, _, _, _, _, _, h, _⟩ := h
  exact h
theorem TreN.fresh (h : TreN w0 w gT gP p s) (hb : Below w.heap.size w w') : TreN w0 w' gT gP p s := by
  obtain ⟨gR, gF, F, bad, h1, h2⟩ := h
  exact ⟨gR, gF, F, bad, h1.fresh hb, h2⟩
theorem TreN.bel (h : TreN w0 w gT gP p s) : Below w0.heap.size w0 w := by
  obtain ⟨gR, gF, F, bad, h1, h2⟩ := h
  exact h1.bel
theorem TreN.ok (h : TreN w0 w gT gP p s) : TsOk s := by
  obtain ⟨gR, gF, F, bad, ⟨K, KT, _, _, h, _⟩, _⟩ := h
  exact h.ok
theorem tt_new (h : PartsT w0 w gR gF gP F bad p) (hb : NoBad bad) (ha : AllN p) {r : Nat} (hr : FirstF p 2 (2 ^ 0) (some r)) :
    Calls Try.prog 10 #[.pointer (some ⟨gR, 0, none⟩), .pointer (some ⟨gP, 0, none⟩)] w fun e w' => ∃ gT F', e = .returned (.tuple #[.pointer (some ⟨gT, 0, none⟩), .int .i64 0]) ∧ TreT w0 w' gT gR gF gP F' bad ⟨p.u.set r 2, p.z, p.i⟩ ⟨List.replicate 4096 en0, [r], true⟩ ∧ AllN ⟨p.u.set r 2, p.z, p.i⟩ := by
  obtain ⟨K, h1, h2, h3, h4, h5, h6, h7, h8⟩ := h
  refine (tree_new gR gF gP K F bad p w h1 h2 h3 h4 hb).mono ?_
  rintro e w' ⟨r', hr', hp⟩
  obtain rfl := hr'.uniq hr
  obtain ⟨gT, F', K', KT', rfl, k1, k2, k3, k4, k5, k6, k7, k8⟩ := hp
  have hrl : r < 1024 := hr.1.2.1
  refine ⟨gT, F', rfl, ⟨K', KT', k1, k2, k3, k4, ?_, h6, h7, h8.trans (k8.below ?_ h8.size), ?_⟩, ?_⟩
  · rintro k (hk | hk)
    · rcases k5 k hk with hk | hk
      · exact h5 k hk
      · exact Nat.le_trans h8.size hk
    · exact Nat.le_trans h8.size (k6 k hk)
  · rintro k (hk | rfl)
    · exact h5 k hk
    · exact h7
  · intro f hf
    rw [List.mem_singleton.1 hf]
    exact getD_set_same _ _ _ _ (by rw [h2.ok.u]; exact hrl)
  · intro f hf h12
    by_cases c : f = r
    · subst c
      have := hr.1
      exact ⟨this.2.2.1, this.2.2.2.1⟩
    · exact ha f hf (by
        rw [show (PS.u ⟨p.u.set r 2, p.z, p.i⟩) = p.u.set r 2 from rfl, getD_set_ne _ _ _ _ _ c] at h12
        exact h12)
theorem tn_new (h : PartsT w0 w gR gF gP F bad p) (hb : NoBad bad) (ha : AllN p) {r : Nat} (hr : FirstF p 2 (2 ^ 0) (some r)) :
    Calls Try.prog 10 #[.pointer (some ⟨gR, 0, none⟩), .pointer (some ⟨gP, 0, none⟩)] w fun e w' => ∃ gT, e = .returned (.tuple #[.pointer (some ⟨gT, 0, none⟩), .int .i64 0]) ∧ TreN w0 w' gT gP ⟨p.u.set r 2, p.z, p.i⟩ ⟨List.replicate 4096 en0, [r], true⟩ := by
  refine (tt_new h hb ha hr).mono ?_
  rintro e w' ⟨gT, F', rfl, h1, h2⟩
  exact ⟨gT, rfl, gR, gF, F', bad, h1, hb, h2⟩
theorem tt_tables (h : TreT w0 w gT gR gF gP F bad p s) :
    Calls Try.prog 15 #[.pointer (some ⟨gT, 0, none⟩)] w fun e w' => ∃ v, e = .returned v ∧ Its w' w'.heap.size v (asI s.t) ∧ Below w.heap.size w w' := by
  obtain ⟨K, KT, h1, h2, h3, h4, h5, h6, h7, h8, h9⟩ := h
  refine (tree_tables gT gR gP KT F s w h3).mono ?_
  rintro e w' ⟨v, rfl, k1, k2⟩
  exact ⟨v, rfl, Its.of_own k1, k2⟩
theorem tn_set (page k n : Int) (b : Bool) (h : TreN w0 w gT gP p s) (hl : s.live = true) :
    Calls Try.prog 12 #[.pointer (some ⟨gT, 0, none⟩), .int .i64 page, .agg #[.int .i64 k, .int .i64 n, .bool b]] w fun e w' => ∃ (er : Nat) (p' : PS) (s' : TS), e = .returned (.int .i64 (er : Int)) ∧ SetIs s p page ⟨k, n, b⟩ er s' p' ∧ TreN w0 w' gT gP p' s' := by
  obtain ⟨gR, gF, F, bad, ⟨K, KT, h1, h2, h3, h4, h5, h6, h7, h8, h9⟩, hb, ha⟩ := h
  refine (tree_set gT gR gF gP K KT F bad p s w page k n b h1 h2 h3 h4 hb h9 hl).mono ?_
  rintro e w' ⟨er, F', p', s', rfl, hs, K', KT', k1, k2, k3, k4, k5, k6, k7, k8⟩
  have hh : (∀ f ∈ s'.t, p'.u.getD f 0 = 2) ∧ AllN p' := by
    rcases hs with ⟨_, _, rfl, rfl⟩ | ⟨_, ⟨_, _, rfl, rfl⟩ | ⟨_, _, rfl, rfl, _⟩ | ⟨_, _, _, _, hst⟩⟩
    · exact ⟨h9, ha⟩
    · exact ⟨h9, ha⟩
    · exact ⟨h9, ha⟩
    · exact ⟨hst.tabs k3.ok.tlt, hst.all ha h9⟩
  refine ⟨er, p', s', rfl, hs, gR, gF, F', bad, ⟨K', KT', k1, k2, k3, k4, ?_, h6, h7, h8.trans (k8.below ?_ h8.size), hh.1⟩, hb, hh.2⟩
  · rintro k (hk | hk)
    · rcases k5 k hk with hk | hk
      · exact h5 k (.inl hk)
      · exact Nat.le_trans h8.size hk
    · rcases k6 k hk with hk | hk
      · exact h5 k (.inr hk)
      · exact Nat.le_trans h8.size hk
  · rintro k (hk | hk | rfl)
    · exact h5 k (.inl hk)
    · exact h5 k (.inr hk)
    · exact h7
theorem tn_get (page : Nat) (hp : page < 4096) (h : TreN w0 w gT gP p s) (hl : s.live = true) :
    Calls Try.prog 18 #[.pointer (some ⟨gT, 0, none⟩), .int .i64 (page : Int)] w fun e w' => e = .returned (.tuple #[.agg (enV (s.e.getD page en0)), .int .i64 0]) ∧ Below w.heap.size w w' := by
  obtain ⟨gR, gF, F, bad, ⟨K, KT, h1, h2, h3, h4, h5, h6, h7, h8, h9⟩, hb, ha⟩ := h
  exact tree_get gT gR gF gP KT F bad s w page hp h1 h3 hb hl
theorem tn_tables (h : TreN w0 w gT gP p s) :
    Calls Try.prog 15 #[.pointer (some ⟨gT, 0, none⟩)] w fun e w' => ∃ v, e = .returned v ∧ Its w' w'.heap.size v (asI s.t) ∧ Below w.heap.size w w' := by
  obtain ⟨gR, gF, F, bad, ⟨K, KT, h1, h2, h3, h4, h5, h6, h7, h8, h9⟩, hb, ha⟩ := h
  refine (tree_tables gT gR gP KT F s w h3).mono ?_
  rintro e w' ⟨v, rfl, k1, k2⟩
  exact ⟨v, rfl, Its.of_own k1, k2⟩
/-- Where enough frames are free, what may be is set. -/
theorem SetIs.done {p' : PS} {s' : TS} {page er : Nat} {x : En} (h : SetIs s p (page : Int) x er s' p') (hp : page < 4096) (hx : EnOk x) (ha : AllN p) (hn : tablesN (pagesOf (s.e.set page x)) ≤ s.t.length + freeU p.u 32) : er = 0 ∧ s'.e = s.e.set page x ∧ s'.live = true ∧ Step s p s' p' := by
  rcases h with ⟨h1, _⟩ | ⟨_, ⟨h1, _⟩ | ⟨_, _, _, _, h1⟩ | ⟨_, h1, h2, h3, h4⟩⟩
  · omega
  · exact absurd hx h1
  · have := h1 ha
    rw [Int.toNat_natCast] at this
    omega
  · rw [Int.toNat_natCast] at h2
    exact ⟨h1, h2, h3, h4⟩
end
end Go.Proofs.Ytegoookllckhiaa
