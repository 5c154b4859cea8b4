/-
  A cache of the call's own, of which all is known; layer 15's own question 'answers' answers true.
  Conditions: none beside the cache's contracts.
-/
import Derived.Test.YtcfjkppgfjlbbaaCacI
import Derived.BigQuiet
import Derived.Deep.QuietTactic
import Derived.Deep.RegionHeld3
namespace Go.Proofs.Ytcfjkppgfjlbbaa
open Go.RowKit
set_option linter.unusedVariables false

/-- A cache of the call's own; nothing that lay in w0 turns, nor the blocks Z. -/
structure CacT (w0 w : World) (gC : Nat) (es : CS) (Z : Nat → Prop) : Prop where
  ex : ∃ K, CacMem w gC K es ∧ ∀ k, K k → w0.heap.size ≤ k ∧ ¬ Z k
  bel : Below w0.heap.size w0 w
section
variable {w0 w w' : World} {gC : Nat} {es es' : CS} {Z : Nat → Prop}
theorem CacT.ok (h : CacT w0 w gC es Z) : CsOk es := by
  obtain ⟨⟨K, h1, _⟩, _⟩ := h
  exact h1.ok
theorem CacT.fresh (h : CacT w0 w gC es Z) (hb : Below w.heap.size w w') : CacT w0 w' gC es Z := by
  obtain ⟨⟨K, h1, h2⟩, h3⟩ := h
  exact ⟨⟨K, h1.fresh hb, h2⟩, h3.trans (hb.mono h3.size)⟩
theorem CacT.only (h : CacT w0 w gC es Z) {g : Nat} (ho : Only g w w') (hz : Z g) (hg : w0.heap.size ≤ g) : CacT w0 w' gC es Z := by
  obtain ⟨⟨K, h1, h2⟩, h3⟩ := h
  exact ⟨⟨K, h1.only ho (fun hk => (h2 g hk).2 hz), h2⟩, h3.trans (ho.below hg h3.size)⟩
theorem CacT.widen {Z' : Nat → Prop} (h : CacT w0 w gC es Z) (hb : Below w.heap.size w w') (hz : ∀ k, Z' k → Z k ∨ w.heap.size ≤ k) : CacT w0 w' gC es Z' := by
  obtain ⟨⟨K, h1, h2⟩, h3⟩ := h
  refine ⟨⟨K, h1.fresh hb, fun k hk => ⟨(h2 k hk).1, fun hz' => ?_⟩⟩, h3.trans (hb.mono h3.size)⟩
  rcases hz k hz' with h | h
  · exact (h2 k hk).2 h
  · have := h1.lt k hk
    omega
/-- What a call leaves that turns it. -/
def CPost (w0 w : World) (gC : Nat) (v : Value) (es' : CS) (Z : Nat → Prop) (e : Ending) (w' : World) : Prop :=
  e = .returned v ∧ CacT w0 w' gC es' Z ∧ (∀ k, k < w.heap.size → Z k → w'.heap[k]? = w.heap[k]?) ∧ (∀ k, k < w0.heap.size → w'.heap[k]? = w.heap[k]?) ∧ w.heap.size ≤ w'.heap.size
theorem CacT.post (h : CacT w0 w gC es Z) (hz : ∀ k, Z k → k < w.heap.size) {v : Value} {f : Nat} {args : Array Value} {P : Program}
    (hc : ∀ K, CacMem w gC K es → Calls P f args w (CacPost w gC K v es')) : Calls P f args w (CPost w0 w gC v es' Z) := by
  obtain ⟨⟨K, h1, h2⟩, h3⟩ := h
  refine (hc K h1).mono ?_
  rintro e w' ⟨K', rfl, k1, k2, k3⟩
  refine ⟨rfl, ⟨⟨K', k1, fun k hk => ?_⟩, h3.trans (k3.below (fun k hk => (h2 k hk).1) h3.size)⟩, fun k hk hz => k3.block k hk (fun hk' => (h2 k hk').2 hz), fun k hk => k3.block k (Nat.lt_of_lt_of_le hk h3.size) (fun hk' => by have := (h2 k hk').1; omega), k3.size⟩
  rcases k2 k hk with hk | hk
  · exact h2 k hk
  · exact ⟨by have := h3.size; omega, fun hz' => by have := hz k hz'; omega⟩
end
section
variable {w0 w : World} {gC : Nat} {es : CS} {Z : Nat → Prop}
theorem ca_new (w0 w : World) (h0 : Below w0.heap.size w0 w) (Z : Nat → Prop) (hz : ∀ k, Z k → k < w.heap.size) : Calls Try.prog 8 #[] w fun e w' => ∃ gC, e = .returned (.pointer (some ⟨gC, 0, none⟩)) ∧ CacT w0 w' gC [] Z ∧ Below w.heap.size w w' :=
  (cache_new w).mono fun e w' ⟨gC, K, he, h1, h2, h3⟩ => ⟨gC, he, ⟨⟨K, h1, fun k hk => ⟨Nat.le_trans h0.size (h2 k hk), fun h => by have := hz k h; have := h2 k hk; omega⟩⟩, h0.trans (h3.mono h0.size)⟩, h3⟩
theorem ca_put (h : CacT w0 w gC es Z) (hz : ∀ k, Z k → k < w.heap.size) (k : Pl) (f : Int) (wk : WPlc k) (wf : W64c f) (hl : es.length ≤ 100000) :
    Calls Try.prog 9 #[.pointer (some ⟨gC, 0, none⟩), .agg #[.int .i64 k.c, .int .i64 k.g], .int .i64 f] w (CPost w0 w gC (.bool (freeC es k f)) (putC es k f) Z) :=
  h.post hz fun K hK => cache_put gC K es w k f hK wk wf hl
theorem ca_mark (h : CacT w0 w gC es Z) (hz : ∀ k, Z k → k < w.heap.size) (k : Pl) (d : Bool) (wk : WPlc k) :
    Calls Try.prog 10 #[.pointer (some ⟨gC, 0, none⟩), .agg #[.int .i64 k.c, .int .i64 k.g], .bool d] w (CPost w0 w gC (.bool (hasC es k)) (markC es k d) Z) :=
  h.post hz fun K hK => cache_mark gC K es w k d hK wk
theorem ca_drop (h : CacT w0 w gC es Z) (hz : ∀ k, Z k → k < w.heap.size) (k : Pl) (wk : WPlc k) :
    Calls Try.prog 11 #[.pointer (some ⟨gC, 0, none⟩), .agg #[.int .i64 k.c, .int .i64 k.g]] w (CPost w0 w gC (.bool (hasC es k)) (dropC es k) Z) :=
  h.post hz fun K hK => cache_drop gC K es w k hK wk
theorem ca_frame (h : CacT w0 w gC es Z) (k : Pl) (wk : WPlc k) :
    Calls Try.prog 12 #[.pointer (some ⟨gC, 0, none⟩), .agg #[.int .i64 k.c, .int .i64 k.g]] w fun e w' => e = .returned (frV15 (frameC es k)) ∧ Below w.heap.size w w' := by
  obtain ⟨⟨K, h1, _⟩, _⟩ := h
  exact cache_frame gC K es w k h1 wk
theorem ca_of (h : CacT w0 w gC es Z) (f : Int) (wf : W64c f) :
    Calls Try.prog 13 #[.pointer (some ⟨gC, 0, none⟩), .int .i64 f] w fun e w' => e = .returned (pgV15 (pageC es f)) ∧ Below w.heap.size w w' := by
  obtain ⟨⟨K, h1, _⟩, _⟩ := h
  exact cache_of gC K es w f h1 wf
theorem ca_dirty (h : CacT w0 w gC es Z) (k : Pl) (wk : WPlc k) :
    Calls Try.prog 14 #[.pointer (some ⟨gC, 0, none⟩), .agg #[.int .i64 k.c, .int .i64 k.g]] w fun e w' => e = .returned (.bool (dirtyC es k)) ∧ Below w.heap.size w w' := by
  obtain ⟨⟨K, h1, _⟩, _⟩ := h
  exact cache_dirty gC K es w k h1 wk
theorem ca_keys (h : CacT w0 w gC es Z) (file : Int) (wf : W64c file) :
    Calls Try.prog 15 #[.pointer (some ⟨gC, 0, none⟩), .int .i64 file] w fun e w' => ∃ v l, e = .returned v ∧ Pls w' w'.heap.size v l ∧ KeysC es file l ∧ Below w.heap.size w w' := by
  obtain ⟨⟨K, h1, _⟩, _⟩ := h
  exact cache_keys gC K es w file h1 wf
end
theorem noZc : ∀ (w : World) (k : Nat), (fun _ : Nat => False) k → k < w.heap.size := fun w k h => h.elim
end Go.Proofs.Ytcfjkppgfjlbbaa
