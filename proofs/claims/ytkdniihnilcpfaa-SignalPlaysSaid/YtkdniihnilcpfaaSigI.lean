/-
  The contracts of a queue of signals, as the statements' walks ask for them: a channel that never waits.
  Conditions: none beside those that each line bears.
-/
import Derived.Test.YtkdniihnilcpfaaSigC
namespace Go.Proofs.Ytkdniihnilcpfaa
open Go.RowKit Go.Conc
set_option linter.unusedVariables false
set_option maxRecDepth 20000

/-- As near to a number as 0 to 16 allow. -/
def near16 (n : Int) : Nat := if n < 0 then 0 else if 16 < n then 16 else n.toNat
theorem near16_le (n : Int) : near16 n ≤ 16 := near16'_le n
/-- A queue in memory, in block gQ: at most m wait, and l do; K: the blocks that its work turns. -/
def SigMem (w : World) (gQ : Nat) (K : Nat → Prop) (m : Nat) (l : List Pl) : Prop :=
  ∃ c s r, Blk w gQ 40 #[.chan (some c)] ∧ w.heap[c]? = some (.chan m (l.map agS).toArray false s r false) ∧ l.length ≤ m ∧ ∀ k, K k ↔ k = gQ ∨ k = c
section
variable {w w' : World} {gQ : Nat} {K : Nat → Prop} {m : Nat} {l : List Pl}
theorem SigMem.lt (h : SigMem w gQ K m l) : ∀ k, K k → k < w.heap.size := by
  obtain ⟨c, s, r, h1, h2, _, h4⟩ := h
  intro k hk
  rcases (h4 k).1 hk with rfl | rfl
  · exact h1.lt
  · exact (Array.getElem?_eq_some_iff.1 h2).1
theorem SigMem.le (h : SigMem w gQ K m l) : l.length ≤ m := by
  obtain ⟨c, s, r, _, _, h3, _⟩ := h
  exact h3
theorem SigMem.far (h : SigMem w gQ K m l) (hk : ∀ k, K k → w'.heap[k]? = w.heap[k]?) : SigMem w' gQ K m l := by
  obtain ⟨c, s, r, h1, h2, h3, h4⟩ := h
  exact ⟨c, s, r, (hk gQ ((h4 _).2 (.inl rfl))).trans h1, (hk c ((h4 _).2 (.inr rfl))).trans h2, h3, h4⟩
theorem SigMem.fresh (h : SigMem w gQ K m l) (hb : Below w.heap.size w w') : SigMem w' gQ K m l := h.far fun k hk => hb.block k (h.lt k hk)
theorem SigMem.only (h : SigMem w gQ K m l) {g : Nat} (ho : Only g w w') (hg : ¬ K g) : SigMem w' gQ K m l := h.far fun k hk => ho.1.block k (h.lt k hk) (fun e => hg (by injection e with e; exact e ▸ hk))
end
/-- What a call that turns it leaves. -/
def SigPost (w : World) (gQ : Nat) (K : Nat → Prop) (m : Nat) (v : Value) (l' : List Pl) (e : Ending) (w' : World) : Prop :=
  ∃ K' : Nat → Prop, e = .returned v ∧ SigMem w' gQ K' m l' ∧ (∀ k, K' k → K k ∨ w.heap.size ≤ k) ∧ Turns K w w'
/-- What Put makes of what waits. -/
def putQ (m : Nat) (l : List Pl) (p : Pl) : List Pl := if l.length < m then l ++ [p] else l
/-- What Take answers. -/
def takeQ : List Pl → Value
  | [] => .tuple #[.agg #[.int .i64 0, .int .i64 0], .bool false]
  | p :: _ => .tuple #[.agg #[.int .i64 p.c, .int .i64 p.g], .bool true]
section
variable (gQ : Nat) (K : Nat → Prop) (m : Nat) (l : List Pl) (w : World)
theorem signal_new (n : Int) : Calls Try.prog 8 #[.int .i64 n] w fun e w' => ∃ gQ K, e = .returned (.pointer (some ⟨gQ, 0, none⟩)) ∧ SigMem w' gQ K (near16 n) [] ∧ (∀ k, K k → w.heap.size ≤ k) ∧ Below w.heap.size w w' := by
  refine (signal_new0 n w).mono ?_
  rintro e w' ⟨rfl, rfl⟩
  refine ⟨_, fun k => k = w.heap.size + 1 ∨ k = w.heap.size, rfl, ⟨w.heap.size, 0, 0, Blk.new1 w _ _ _, ?_, Nat.zero_le _, fun k => Iff.rfl⟩, ?_, ((Below.refl _ w).alloc (Nat.le_refl _) _).alloc (by rw [World.size_alloc]; omega) _⟩
  · exact (Below.heap_alloc _ _ _ (by rw [World.size_alloc]; omega)).trans (heap_alloc_new w _)
  · rintro k (rfl | rfl)
    · omega
    · exact Nat.le_refl _
theorem signal_put (p : Pl) (h : SigMem w gQ K m l) :
    Calls Try.prog 11 #[.pointer (some ⟨gQ, 0, none⟩), .agg #[.int .i64 p.c, .int .i64 p.g]] w (SigPost w gQ K m (.bool (decide (l.length < m))) (putQ m l p)) := by
  obtain ⟨c, s, r, h1, h2, h3, h4⟩ := h
  have hlc : c < w.heap.size := (Array.getElem?_eq_some_iff.1 h2).1
  have hne : c ≠ gQ := by
    rintro rfl
    have := h1.symm.trans h2
    cases this
  have hA : Turns K w (w.alloc (.cells #[.int .i64 p.c, .int .i64 p.g] 29)) := (Turns.refl _ w).alloc _
  by_cases hm : l.length < m
  · rw [decide_eq_true hm, show putQ m l p = l ++ [p] from if_pos hm]
    refine (put_room gQ c m s r _ p w (h1.cell 0) h1.lt h2 hlc (by simpa using hm)).mono ?_
    rintro e w' ⟨rfl, rfl⟩
    refine ⟨K, rfl, ⟨c, s + 1, r, ?_, ?_, ?_, h4⟩, fun k hk => .inl hk, hA.trans ((turns_setChan _ _ _ _ _ _ _ _).mono fun k hk => (h4 k).2 (.inr hk))⟩
    · exact (setChan_other _ _ _ _ _ _ _ _ _ hne).trans (h1.al _)
    · rw [heap_setChan _ _ _ _ _ _ _ _ (by rw [World.size_alloc]; omega)]
      simp [agS]
    · simp only [List.length_append, List.length_singleton]; omega
  · rw [decide_eq_false hm, show putQ m l p = l from if_neg hm]
    refine (put_full gQ c m s r _ p w (h1.cell 0) h1.lt h2 hlc (by simpa using hm)).mono ?_
    rintro e w' ⟨rfl, rfl⟩
    exact ⟨K, rfl, ⟨c, s, r, h1.al _, (Below.heap_alloc _ _ _ hlc).trans h2, h3, h4⟩, fun k hk => .inl hk, hA⟩
theorem signal_take (h : SigMem w gQ K m l) :
    Calls Try.prog 10 #[.pointer (some ⟨gQ, 0, none⟩)] w (SigPost w gQ K m (takeQ l) l.tail) := by
  obtain ⟨c, s, r, h1, h2, h3, h4⟩ := h
  have hlc : c < w.heap.size := (Array.getElem?_eq_some_iff.1 h2).1
  have hne : c ≠ gQ := by
    rintro rfl
    have := h1.symm.trans h2
    cases this
  cases l with
  | nil =>
    refine (take_none gQ c m s r w (h1.cell 0) h1.lt h2 hlc).mono ?_
    rintro e w' ⟨rfl, hb⟩
    exact ⟨K, rfl, ⟨c, s, r, h1.below hb h1.lt, (hb.block c hlc).trans h2, h3, h4⟩, fun k hk => .inl hk, Turns.of_below hb (Nat.le_refl _)⟩
  | cons p l =>
    refine (take_some gQ c m s r _ p w (h1.cell 0) h1.lt h2 hlc (by simp) (by simp [agS])).mono ?_
    rintro e w' ⟨rfl, hc, ht⟩
    refine ⟨K, rfl, ⟨c, s, r + 1, ?_, ?_, by simp only [List.tail_cons]; simp only [List.length_cons] at h3; omega, h4⟩, fun k hk => .inl hk, ht.mono fun k hk => (h4 k).2 (.inr hk)⟩
    · exact (ht.block gQ h1.lt (fun e => hne e.symm)).trans h1
    · rw [hc]
      simp
      exact List.take_of_length_le (by rw [List.length_map]; exact Nat.le_refl _)
theorem signal_len (h : SigMem w gQ K m l) :
    Calls Try.prog 12 #[.pointer (some ⟨gQ, 0, none⟩)] w fun e w' => e = .returned (.int .i64 ((l.length : Nat) : Int)) ∧ Below w.heap.size w w' := by
  obtain ⟨c, s, r, h1, h2, h3, h4⟩ := h
  have := signal_len0 gQ c m s r _ w (h1.cell 0) h1.lt h2
  simpa using this
theorem signal_put_nil (c g : Int) : Calls Try.prog 11 #[.pointer none, .agg #[.int .i64 c, .int .i64 g]] w fun e w' => e = .returned (.bool false) ∧ Below w.heap.size w w' := by
  refine (put_nil ⟨c, g⟩ w).mono ?_
  rintro e w' ⟨rfl, rfl⟩
  exact ⟨rfl, (Below.refl _ w).alloc (Nat.le_refl _) _⟩
theorem signal_take_nil : Calls Try.prog 10 #[.pointer none] w fun e w' => e = .returned (takeQ []) ∧ Below w.heap.size w w' := take_nil w
theorem signal_len_nil : Calls Try.prog 12 #[.pointer none] w fun e w' => e = .returned (.int .i64 0) ∧ Below w.heap.size w w' := by
  refine (signal_len_nil0 w).mono ?_
  rintro e w' ⟨rfl, rfl⟩
  exact ⟨rfl, Below.refl _ _⟩
end
end Go.Proofs.Ytkdniihnilcpfaa
