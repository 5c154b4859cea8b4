/-
  Slots of the call's own, of which all is known.
  Conditions: none beside swap's contracts.
-/
import Derived.Test.YthfcmfhmaokioaaSwpI
import Derived.BigQuiet
import Derived.Deep.QuietTactic
import Derived.Deep.RegionHeld3
namespace Go.Proofs.Ythfcmfhmaokioaa
open Go.RowKit
set_option linter.unusedVariables false

/-- Slots of the call's own; nothing that lay in w0 turns, nor the blocks Z. -/
structure SwpT (w0 w : World) (gS : Nat) (s : SS) (Z : Nat → Prop) : Prop where
  ex : ∃ K, SwpMem w gS K s ∧ ∀ k, K k → w0.heap.size ≤ k ∧ ¬ Z k
  bel : Below w0.heap.size w0 w
section
variable {w0 w w' : World} {gS : Nat} {s s' : SS} {Z : Nat → Prop}
theorem SwpT.ok (h : SwpT w0 w gS s Z) : SsOk s := by
  obtain ⟨⟨K, h1, _⟩, _⟩ := h
  exact h1.ok
theorem SwpT.fresh (h : SwpT w0 w gS s Z) (hb : Below w.heap.size w w') : SwpT w0 w' gS s Z := by
  obtain ⟨⟨K, h1, h2⟩, h3⟩ := h
  exact ⟨⟨K, h1.fresh hb, h2⟩, h3.trans (hb.mono h3.size)⟩
theorem SwpT.only (h : SwpT w0 w gS s Z) {g : Nat} (ho : Only g w w') (hz : Z g) (hg : w0.heap.size ≤ g) : SwpT w0 w' gS s Z := by
  obtain ⟨⟨K, h1, h2⟩, h3⟩ := h
  exact ⟨⟨K, h1.only ho (fun hk => (h2 g hk).2 hz), h2⟩, h3.trans (ho.below hg h3.size)⟩
theorem SwpT.widen {Z' : Nat → Prop} (h : SwpT w0 w gS s Z) (hb : Below w.heap.size w w') (hz : ∀ k, Z' k → Z k ∨ w.heap.size ≤ k) : SwpT w0 w' gS s Z' := by
  obtain ⟨⟨K, h1, h2⟩, h3⟩ := h
  refine ⟨⟨K, h1.fresh hb, fun k hk => ⟨(h2 k hk).1, fun hz' => ?_⟩⟩, h3.trans (hb.mono h3.size)⟩
  rcases hz k hz' with h | h
  · exact (h2 k hk).2 h
  · have := h1.lt k hk
    omega
/-- What a call leaves that turns it. -/
def SPost (w0 w : World) (gS : Nat) (v : Value) (s' : SS) (Z : Nat → Prop) (e : Ending) (w' : World) : Prop :=
  e = .returned v ∧ SwpT w0 w' gS s' Z ∧ (∀ k, k < w.heap.size → Z k → w'.heap[k]? = w.heap[k]?) ∧ (∀ k, k < w0.heap.size → w'.heap[k]? = w.heap[k]?) ∧ w.heap.size ≤ w'.heap.size
theorem SwpT.post (h : SwpT w0 w gS s Z) (hz : ∀ k, Z k → k < w.heap.size) {v : Value} {f : Nat} {args : Array Value} {P : Program}
    (hc : ∀ K, SwpMem w gS K s → Calls P f args w (SwpPost w gS K v s')) : Calls P f args w (SPost w0 w gS v s' Z) := by
  obtain ⟨⟨K, h1, h2⟩, h3⟩ := h
  refine (hc K h1).mono ?_
  rintro e w' ⟨K', rfl, k1, k2, k3⟩
  refine ⟨rfl, ⟨⟨K', k1, fun k hk => ?_⟩, h3.trans (k3.below (fun k hk => (h2 k hk).1) h3.size)⟩, fun k hk hz => k3.block k hk (fun hk' => (h2 k hk').2 hz), fun k hk => k3.block k (Nat.lt_of_lt_of_le hk h3.size) (fun hk' => by have := (h2 k hk').1; omega), k3.size⟩
  rcases k2 k hk with hk | hk
  · exact h2 k hk
  · exact ⟨by have := h3.size; omega, fun hz' => by have := hz k hz'; omega⟩
end
section
variable {w0 w : World} {gS : Nat} {s : SS} {Z : Nat → Prop}
theorem sw_new (w0 w : World) (h0 : Below w0.heap.size w0 w) (Z : Nat → Prop) (hz : ∀ k, Z k → k < w.heap.size) : Calls Try.prog 9 #[] w fun e w' => ∃ gS, e = .returned (.pointer (some ⟨gS, 0, none⟩)) ∧ SwpT w0 w' gS ss0 Z ∧ Below w.heap.size w w' :=
  (swap_new w).mono fun e w' ⟨gS, K, he, h1, h2, h3⟩ => ⟨gS, he, ⟨⟨K, h1, fun k hk => ⟨Nat.le_trans h0.size (h2 k hk), fun h => by have := hz k h; have := h2 k hk; omega⟩⟩, h0.trans (h3.mono h0.size)⟩, h3⟩
theorem sw_hold (h : SwpT w0 w gS s Z) (hz : ∀ k, Z k → k < w.heap.size) (n : Int) (p : Pl) (wp : WPl p) (hl : (s n.toNat).length ≤ 100000) :
    Calls Try.prog 10 #[.pointer (some ⟨gS, 0, none⟩), .int .i64 n, .agg #[.int .i64 p.c, .int .i64 p.g]] w (SPost w0 w gS (.bool (decide (isSlot n))) (holdS s n p) Z) :=
  h.post hz fun K hK => swap_hold gS K s w n p hK wp hl
theorem sw_release (h : SwpT w0 w gS s Z) (hz : ∀ k, Z k → k < w.heap.size) (n : Int) (p : Pl) (wp : WPl p) :
    Calls Try.prog 13 #[.pointer (some ⟨gS, 0, none⟩), .int .i64 n, .agg #[.int .i64 p.c, .int .i64 p.g]] w (SPost w0 w gS (.bool (inS s n p)) (relS s n p) Z) :=
  h.post hz fun K hK => swap_release gS K s w n p hK wp
theorem sw_take (h : SwpT w0 w gS s Z) {r : Option Nat} (hr : TakeIs s r) :
    Calls Try.prog 16 #[.pointer (some ⟨gS, 0, none⟩)] w fun e w' => e = .returned (takeV r) ∧ Below w.heap.size w w' := by
  obtain ⟨⟨K, h1, _⟩, _⟩ := h
  exact (swap_take gS K s w h1).mono fun e w' ⟨t, he, ht, hb⟩ => ⟨by rw [he, ht.uniq hr], hb⟩
theorem sw_of (h : SwpT w0 w gS s Z) (n : Nat) (hn : n < 32) :
    Calls Try.prog 15 #[.pointer (some ⟨gS, 0, none⟩), .int .i64 (n : Int)] w fun e w' => ∃ v, e = .returned v ∧ Pls w' w'.heap.size v (s n) ∧ NewS w v ∧ Below w.heap.size w w' := by
  obtain ⟨⟨K, h1, _⟩, _⟩ := h
  exact swap_of gS K s w n hn h1
theorem sw_slots (h : SwpT w0 w gS s Z) (c : Int) :
    Calls Try.prog 19 #[.pointer (some ⟨gS, 0, none⟩), .int .i64 c] w fun e w' => ∃ v, e = .returned v ∧ Its w' w'.heap.size v (slotsS s c 32) ∧ Below w.heap.size w w' := by
  obtain ⟨⟨K, h1, _⟩, _⟩ := h
  exact swap_slots gS K s w c h1
theorem sw_used (h : SwpT w0 w gS s Z) :
    Calls Try.prog 17 #[.pointer (some ⟨gS, 0, none⟩)] w fun e w' => e = .returned (.int .i64 ((usedS s 32 : Nat) : Int)) ∧ Below w.heap.size w w' := by
  obtain ⟨⟨K, h1, _⟩, _⟩ := h
  exact swap_used gS K s w h1
end
theorem noZs : ∀ (w : World) (k : Nat), (fun _ : Nat => False) k → k < w.heap.size := fun w k h => h.elim
end Go.Proofs.Ythfcmfhmaokioaa
