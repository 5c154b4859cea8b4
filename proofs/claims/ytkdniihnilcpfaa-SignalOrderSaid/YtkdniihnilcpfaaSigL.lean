/-
  A queue of the call's own, of which all is known.
  Conditions: none beside the queue's contracts.
-/
import Derived.Test.YtkdniihnilcpfaaSigI
import Derived.BigQuiet
import Derived.Deep.QuietTactic
import Derived.Deep.RegionHeld3
namespace Go.Proofs.Ytkdniihnilcpfaa
open Go.RowKit
set_option linter.unusedVariables false

/-- A queue of the call's own; nothing that lay in w0 turns, nor the blocks Z. -/
structure SigT (w0 w : World) (gQ : Nat) (m : Nat) (l : List Pl) (Z : Nat → Prop) : Prop where
  ex : ∃ K, SigMem w gQ K m l ∧ ∀ k, K k → w0.heap.size ≤ k ∧ ¬ Z k
  bel : Below w0.heap.size w0 w
section
variable {w0 w w' : World} {gQ : Nat} {m : Nat} {l l' : List Pl} {Z : Nat → Prop}
theorem SigT.fresh (h : SigT w0 w gQ m l Z) (hb : Below w.heap.size w w') : SigT w0 w' gQ m l Z := by
  obtain ⟨⟨K, h1, h2⟩, h3⟩ := h
  exact ⟨⟨K, h1.fresh hb, h2⟩, h3.trans (hb.mono h3.size)⟩
theorem SigT.only (h : SigT w0 w gQ m l Z) {g : Nat} (ho : Only g w w') (hz : Z g) (hg : w0.heap.size ≤ g) : SigT w0 w' gQ m l Z := by
  obtain ⟨⟨K, h1, h2⟩, h3⟩ := h
  exact ⟨⟨K, h1.only ho (fun hk => (h2 g hk).2 hz), h2⟩, h3.trans (ho.below hg h3.size)⟩
theorem SigT.widen {Z' : Nat → Prop} (h : SigT w0 w gQ m l Z) (hb : Below w.heap.size w w') (hz : ∀ k, Z' k → Z k ∨ w.heap.size ≤ k) : SigT w0 w' gQ m l Z' := by
  obtain ⟨⟨K, h1, h2⟩, h3⟩ := h
  refine ⟨⟨K, h1.fresh hb, fun k hk => ⟨(h2 k hk).1, fun hz' => ?_⟩⟩, h3.trans (hb.mono h3.size)⟩
  rcases hz k hz' with h | h
  · exact (h2 k hk).2 h
  · have := h1.lt k hk
    omega
/-- What a call leaves that turns it. -/
def QPost (w0 w : World) (gQ : Nat) (m : Nat) (v : Value) (l' : List Pl) (Z : Nat → Prop) (e : Ending) (w' : World) : Prop :=
  e = .returned v ∧ SigT w0 w' gQ m l' Z ∧ (∀ k, k < w.heap.size → Z k → w'.heap[k]? = w.heap[k]?) ∧ (∀ k, k < w0.heap.size → w'.heap[k]? = w.heap[k]?) ∧ w.heap.size ≤ w'.heap.size
theorem SigT.post (h : SigT w0 w gQ m l Z) (hz : ∀ k, Z k → k < w.heap.size) {v : Value} {f : Nat} {args : Array Value} {P : Program}
    (hc : ∀ K, SigMem w gQ K m l → Calls P f args w (SigPost w gQ K m v l')) : Calls P f args w (QPost w0 w gQ m v l' Z) := by
  obtain ⟨⟨K, h1, h2⟩, h3⟩ := h
  refine (hc K h1).mono ?_
  rintro e w' ⟨K', rfl, k1, k2, k3⟩
  refine ⟨rfl, ⟨⟨K', k1, fun k hk => ?_⟩, h3.trans (k3.below (fun k hk => (h2 k hk).1) h3.size)⟩, fun k hk hz => k3.block k hk (fun hk' => (h2 k hk').2 hz), fun k hk => k3.block k (Nat.lt_of_lt_of_le hk h3.size) (fun hk' => by have := (h2 k hk').1; omega), k3.size⟩
  rcases k2 k hk with hk | hk
  · exact h2 k hk
  · exact ⟨by have := h3.size; omega, fun hz' => by have := hz k hz'; omega⟩
end
section
variable {w0 w : World} {gQ : Nat} {m : Nat} {l : List Pl} {Z : Nat → Prop}
theorem SigT.le (h : SigT w0 w gQ m l Z) : l.length ≤ m := by
  obtain ⟨⟨K, h1, _⟩, _⟩ := h
  exact h1.le
theorem sg_new (w0 w : World) (n : Int) (h0 : Below w0.heap.size w0 w) (Z : Nat → Prop) (hz : ∀ k, Z k → k < w.heap.size) : Calls Try.prog 8 #[.int .i64 n] w fun e w' => ∃ gQ, e = .returned (.pointer (some ⟨gQ, 0, none⟩)) ∧ SigT w0 w' gQ (near16 n) [] Z ∧ Below w.heap.size w w' :=
  (signal_new w n).mono fun e w' ⟨gQ, K, he, h1, h2, h3⟩ => ⟨gQ, he, ⟨⟨K, h1, fun k hk => ⟨Nat.le_trans h0.size (h2 k hk), fun h => by have := hz k h; have := h2 k hk; omega⟩⟩, h0.trans (h3.mono h0.size)⟩, h3⟩
theorem sg_put (h : SigT w0 w gQ m l Z) (hz : ∀ k, Z k → k < w.heap.size) (p : Pl) :
    Calls Try.prog 11 #[.pointer (some ⟨gQ, 0, none⟩), .agg #[.int .i64 p.c, .int .i64 p.g]] w (QPost w0 w gQ m (.bool (decide (l.length < m))) (putQ m l p) Z) :=
  h.post hz fun K hK => signal_put gQ K m l w p hK
theorem sg_take (h : SigT w0 w gQ m l Z) (hz : ∀ k, Z k → k < w.heap.size) :
    Calls Try.prog 10 #[.pointer (some ⟨gQ, 0, none⟩)] w (QPost w0 w gQ m (takeQ l) l.tail Z) :=
  h.post hz fun K hK => signal_take gQ K m l w hK
theorem sg_len (h : SigT w0 w gQ m l Z) :
    Calls Try.prog 12 #[.pointer (some ⟨gQ, 0, none⟩)] w fun e w' => e = .returned (.int .i64 ((l.length : Nat) : Int)) ∧ Below w.heap.size w w' := by
  obtain ⟨⟨K, h1, _⟩, _⟩ := h
  exact signal_len gQ K m l w h1
end
theorem noZq : ∀ (w : World) (k : Nat), (fun _ : Nat => False) k → k < w.heap.size := fun w k h => h.elim
end Go.Proofs.Ytkdniihnilcpfaa
