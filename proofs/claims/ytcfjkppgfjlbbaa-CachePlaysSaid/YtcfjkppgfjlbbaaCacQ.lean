/-
  A cache of the call's own and three lists beside it; where a page stands in the lists; the acts of layer 15's statements in memory.
  Conditions: none beside the cache's contracts.
-/
import Derived.Test.YtcfjkppgfjlbbaaCacA
import Derived.Test.YtcfjkppgfjlbbaaDia
import Derived.Deep.LoopGhost
namespace Go.Proofs.Ytcfjkppgfjlbbaa
open Go.RowKit
set_option linter.unusedVariables false

structure Act15 where
  wh : Int
  f : Int
  k : Pl
  d : Bool
def Acts15 (w : World) (v : Value) (la : List Act15) : Prop :=
  ∃ A n c, v = .slice A n c ∧ la.length = n ∧ n ≤ maxLen ∧ (0 < n → ∃ b o, A = some ⟨b, o, none⟩ ∧ ∀ (j : Nat) (x : Act15), la[j]? = some x → b < w.heap.size ∧
    w.cell? ⟨b, o + j * 5, none⟩ = some (.int .i64 x.wh) ∧ w.cell? ⟨b, o + j * 5 + 1, none⟩ = some (.int .i64 x.f) ∧ w.cell? ⟨b, o + j * 5 + 2, none⟩ = some (.int .i64 x.k.c) ∧ w.cell? ⟨b, o + j * 5 + 3, none⟩ = some (.int .i64 x.k.g) ∧ w.cell? ⟨b, o + j * 5 + 4, none⟩ = some (.bool x.d) ∧ WPlc x.k ∧ W64c x.f)
/-- Where a page stands in the list: at z. -/
def At (es : CS) (k : Pl) (z : Int) : Prop := (z = -1 ∧ ∀ e ∈ es, e.k ≠ k) ∨ ∃ (i : Nat) (e : Ce), z = (i : Int) ∧ es[i]? = some e ∧ e.k = k
theorem At.nil_ (k : Pl) : At [] k (-1) := .inl ⟨rfl, fun e h => absurd h List.not_mem_nil⟩
theorem At.yes {es : CS} {k : Pl} {e : Ce} (h : e.k = k) : At (es ++ [e]) k ((es.length : Nat) : Int) := .inr ⟨es.length, e, rfl, by simp, h⟩
theorem At.no {es : CS} {k : Pl} {e : Ce} {z : Int} (h : e.k ≠ k) (ha : At es k z) : At (es ++ [e]) k z := by
  rcases ha with ⟨h1, h2⟩ | ⟨i, x, h1, h2, h3⟩
  · refine .inl ⟨h1, fun x hx => ?_⟩
    rcases List.mem_append.1 hx with hx | hx
    · exact h2 x hx
    · rw [List.mem_singleton.1 hx]; exact h
  · exact .inr ⟨i, x, h1, by rw [List.getElem?_append_left (List.getElem?_eq_some_iff.1 h2).1]; exact h2, h3⟩
theorem cut_at {es : CS} {i : Nat} {e : Ce} (h : es[i]? = some e) : es = es.take i ++ e :: es.drop (i + 1) := by
  obtain ⟨hl, he⟩ := List.getElem?_eq_some_iff.1 h
  rw [← he, List.getElem_cons_drop, List.take_append_drop]
theorem At.cases_ {es : CS} {k : Pl} {z : Int} (ha : At es k z) (h : CsOk es) :
    (z = -1 ∧ hasC es k = false) ∨ ∃ (i : Nat) (e : Ce), z = (i : Int) ∧ hasC es k = true ∧ es[i]? = some e ∧ e.k = k ∧ dropC es k = es.take i ++ es.drop (i + 1) ∧ ∀ d, markC es k d = es.set i ⟨e.k, e.f, d⟩ := by
  rcases ha with ⟨h1, h2⟩ | ⟨i, e, h1, h2, h3⟩
  · refine .inl ⟨h1, ?_⟩
    cases c : hasC es k with
    | false => rfl
    | true => obtain ⟨e, he, e1⟩ := hasC_iff.1 c; exact absurd e1 (h2 e he)
  · have hc := cut_at h2
    obtain ⟨l1, hl1⟩ : ∃ l, l = es.take i := ⟨_, rfl⟩
    obtain ⟨l2, hl2⟩ : ∃ l, l = es.drop (i + 1) := ⟨_, rfl⟩
    rw [← hl1, ← hl2] at hc
    have hlen : l1.length = i := by
      have := (List.getElem?_eq_some_iff.1 h2).1
      rw [hl1, List.length_take]; omega
    have hp := h
    rw [hc] at hp
    obtain ⟨p1, p2, p3⟩ := List.pairwise_append.1 hp
    obtain ⟨p4, p5⟩ := List.pairwise_cons.1 p2
    have q1 : ∀ x ∈ l1, x.k ≠ k := fun x hx e1 => (p3 x hx e List.mem_cons_self).1 (e1.trans h3.symm)
    have q2 : ∀ x ∈ l2, x.k ≠ k := fun x hx e1 => (p4 x hx).1 (h3.trans e1.symm)
    refine .inr ⟨i, e, h1, hasC_iff.2 ⟨e, List.mem_of_getElem? h2, h3⟩, h2, h3, ?_, fun d => ?_⟩
    · rw [← hl1, ← hl2, hc]
      unfold dropC
      rw [List.filter_append, List.filter_cons_of_neg (by simp [h3]), List.filter_eq_self.2 (fun x hx => by simp [q1 x hx]), List.filter_eq_self.2 (fun x hx => by simp [q2 x hx])]
    · rw [hc]
      unfold markC
      rw [List.map_append, List.map_cons, if_pos h3, List.set_append_right _ _ (by omega), hlen, Nat.sub_self, List.set_cons_zero]
      congr 1
      · exact (List.map_congr_left (fun x hx => if_neg (q1 x hx))).trans (List.map_id' _)
      · congr 1
        exact (List.map_congr_left (fun x hx => if_neg (q2 x hx))).trans (List.map_id' _)
theorem busyC_snoc (es : CS) (e : Ce) (f : Int) : busyC (es ++ [e]) f = (busyC es f || decide (e.f = f)) := by
  unfold busyC
  rw [List.any_append]
  simp
theorem frameC_at {es : CS} {i : Nat} {e : Ce} (h : CsOk es) (h2 : es[i]? = some e) : frameC es e.k = some e.f := by
  have hc := cut_at h2
  unfold frameC
  have hp := h
  rw [hc] at hp ⊢
  obtain ⟨p1, p2, p3⟩ := List.pairwise_append.1 hp
  rw [List.find?_append, List.find?_eq_none.2 (fun x hx => by simp [(p3 x hx e List.mem_cons_self).1]), Option.none_or, List.find?_cons_of_pos (by simp)]
  rfl
theorem pageC_at {es : CS} {i : Nat} {e : Ce} (h : CsOk es) (h2 : es[i]? = some e) : pageC es e.f = some e.k := by
  have hc := cut_at h2
  unfold pageC
  have hp := h
  rw [hc] at hp ⊢
  obtain ⟨p1, p2, p3⟩ := List.pairwise_append.1 hp
  rw [List.find?_append, List.find?_eq_none.2 (fun x hx => by simp [(p3 x hx e List.mem_cons_self).2]), Option.none_or, List.find?_cons_of_pos (by simp)]
  rfl
theorem dirtyC_at {es : CS} {i : Nat} {e : Ce} (h : CsOk es) (h2 : es[i]? = some e) : dirtyC es e.k = e.d := by
  have hc := cut_at h2
  unfold dirtyC
  have hp := h
  rw [hc] at hp ⊢
  obtain ⟨p1, p2, p3⟩ := List.pairwise_append.1 hp
  obtain ⟨p4, p5⟩ := List.pairwise_cons.1 p2
  rw [List.any_append, List.any_cons, List.any_eq_false.2 (fun x hx => by simp [(p3 x hx e List.mem_cons_self).1]), List.any_eq_false.2 (fun x hx => by simp; intro e1; exact absurd e1.symm (p4 x hx).1)]
  simp
def kL (es : CS) : List Value := flatP (es.map (·.k))
def fL (es : CS) : List Value := es.map (fun e => Value.int .i64 e.f)
def dL (es : CS) : List Value := es.map (fun e => Value.bool e.d)
/-- All of whose numbers an int holds. -/
def WCs (es : CS) : Prop := ∀ e ∈ es, WPlc e.k ∧ W64c e.f
/-- The cache has es, the three lists have ls; X: blocks beside them that the cache does not turn. -/
structure St (w W : World) (gC : Nat) (es ls : CS) (X : Nat → Prop) (v6 v7 v8 : Value) : Prop where
  t : CacT w W gC es (fun k => v6.ownBlock = some k ∨ v7.ownBlock = some k ∨ v8.ownBlock = some k ∨ X k)
  r6 : RowAt W w.heap.size 2 v6 ls.length (kL ls)
  r7 : RowAt W w.heap.size 1 v7 ls.length (fL ls)
  r8 : RowAt W w.heap.size 1 v8 ls.length (dL ls)
  n67 : ∀ k, v6.ownBlock = some k → v7.ownBlock ≠ some k
  n68 : ∀ k, v6.ownBlock = some k → v8.ownBlock ≠ some k
  n78 : ∀ k, v7.ownBlock = some k → v8.ownBlock ≠ some k
  x : ∀ k, X k → (w.heap.size ≤ k ∧ k < W.heap.size) ∧ v6.ownBlock ≠ some k ∧ v7.ownBlock ≠ some k ∧ v8.ownBlock ≠ some k
section
variable {w W W' : World} {gC : Nat} {es es' ls : CS} {X : Nat → Prop} {v6 v7 v8 : Value}
theorem St.z (h : St w W gC es ls X v6 v7 v8) : ∀ k, (v6.ownBlock = some k ∨ v7.ownBlock = some k ∨ v8.ownBlock = some k ∨ X k) → k < W.heap.size := by
  rintro k (h1 | h1 | h1 | h1)
  · exact (h.r6.lt k h1).2
  · exact (h.r7.lt k h1).2
  · exact (h.r8.lt k h1).2
  · exact (h.x k h1).1.2
theorem St.fresh (h : St w W gC es ls X v6 v7 v8) (hb : Below W.heap.size W W') : St w W' gC es ls X v6 v7 v8 :=
  ⟨h.t.fresh hb, h.r6.fresh hb, h.r7.fresh hb, h.r8.fresh hb, h.n67, h.n68, h.n78, fun k hk => ⟨⟨(h.x k hk).1.1, Nat.lt_of_lt_of_le (h.x k hk).1.2 hb.size⟩, (h.x k hk).2⟩⟩
theorem St.post (h : St w W gC es ls X v6 v7 v8) {v : Value} {e : Ending} (hp : CPost w W gC v es' (fun k => v6.ownBlock = some k ∨ v7.ownBlock = some k ∨ v8.ownBlock = some k ∨ X k) e W') :
    e = .returned v ∧ St w W' gC es' ls X v6 v7 v8 ∧ ∀ k, X k → W'.heap[k]? = W.heap[k]? := by
  obtain ⟨he, h1, h2, h3, h4⟩ := hp
  refine ⟨he, ⟨h1, h.r6.keep (fun k hk => h2 k (h.r6.lt k hk).2 (.inl hk)) h4, h.r7.keep (fun k hk => h2 k (h.r7.lt k hk).2 (.inr (.inl hk))) h4, h.r8.keep (fun k hk => h2 k (h.r8.lt k hk).2 (.inr (.inr (.inl hk)))) h4, h.n67, h.n68, h.n78,
    fun k hk => ⟨⟨(h.x k hk).1.1, Nat.lt_of_lt_of_le (h.x k hk).1.2 h4⟩, (h.x k hk).2⟩⟩, fun k hk => h2 k (h.x k hk).1.2 (.inr (.inr (.inr hk)))⟩
theorem St.put (h : St w W gC es ls X v6 v7 v8) (q : Pl) (f : Int) (wk : WPlc q) (wf : W64c f) (hl : es.length ≤ 100000) :
    Calls Try.prog 9 #[.pointer (some ⟨gC, 0, none⟩), .agg #[.int .i64 q.c, .int .i64 q.g], .int .i64 f] W fun e w' => e = .returned (.bool (freeC es q f)) ∧ St w w' gC (putC es q f) ls X v6 v7 v8 ∧ ∀ k, X k → w'.heap[k]? = W.heap[k]? :=
  (ca_put h.t h.z q f wk wf hl).mono fun e w' hp => h.post hp
theorem St.mark (h : St w W gC es ls X v6 v7 v8) (q : Pl) (d : Bool) (wk : WPlc q) :
    Calls Try.prog 10 #[.pointer (some ⟨gC, 0, none⟩), .agg #[.int .i64 q.c, .int .i64 q.g], .bool d] W fun e w' => e = .returned (.bool (hasC es q)) ∧ St w w' gC (markC es q d) ls X v6 v7 v8 ∧ ∀ k, X k → w'.heap[k]? = W.heap[k]? :=
  (ca_mark h.t h.z q d wk).mono fun e w' hp => h.post hp
theorem St.drop (h : St w W gC es ls X v6 v7 v8) (q : Pl) (wk : WPlc q) :
    Calls Try.prog 11 #[.pointer (some ⟨gC, 0, none⟩), .agg #[.int .i64 q.c, .int .i64 q.g]] W fun e w' => e = .returned (.bool (hasC es q)) ∧ St w w' gC (dropC es q) ls X v6 v7 v8 ∧ ∀ k, X k → w'.heap[k]? = W.heap[k]? :=
  (ca_drop h.t h.z q wk).mono fun e w' hp => h.post hp
/-- A block that was just made is one of those that the cache does not turn. -/
theorem St.with_ (h : St w W gC es ls (fun _ => False) v6 v7 v8) (hb : Below W.heap.size W W') {g : Nat} (hg : W.heap.size ≤ g) (hg' : g < W'.heap.size) : St w W' gC es ls (fun k => k = g) v6 v7 v8 := by
  refine ⟨h.t.widen hb ?_, h.r6.fresh hb, h.r7.fresh hb, h.r8.fresh hb, h.n67, h.n68, h.n78, fun k hk => ?_⟩
  · rintro k (h1 | h1 | h1 | h1)
    · exact .inl (.inl h1)
    · exact .inl (.inr (.inl h1))
    · exact .inl (.inr (.inr (.inl h1)))
    · exact .inr (by rw [h1]; exact hg)
  · rw [hk]
    exact ⟨⟨Nat.le_trans h.t.bel.size hg, hg'⟩, fun e => by have := (h.r6.lt g e).2; omega, fun e => by have := (h.r7.lt g e).2; omega, fun e => by have := (h.r8.lt g e).2; omega⟩
theorem St.without (h : St w W gC es ls X v6 v7 v8) : St w W gC es ls (fun _ => False) v6 v7 v8 := by
  refine ⟨h.t.widen (Below.refl _ _) ?_, h.r6, h.r7, h.r8, h.n67, h.n68, h.n78, fun k hk => hk.elim⟩
  rintro k (h1 | h1 | h1 | h1)
  · exact .inl (.inl h1)
  · exact .inl (.inr (.inl h1))
  · exact .inl (.inr (.inr (.inl h1)))
  · exact h1.elim
/-- Where there are elements, the lists have addresses, and cells. -/
theorem St.at_ (h : St w W gC es ls X v6 v7 v8) {n i : Nat} {e : Ce} (hn : n = ls.length) (hi : ls[i]? = some e) :
    ∃ g6 o6 c6 g7 o7 c7 g8 o8 c8, (v6 = .slice (some ⟨g6, o6, none⟩) n c6 ∧ v7 = .slice (some ⟨g7, o7, none⟩) n c7 ∧ v8 = .slice (some ⟨g8, o8, none⟩) n c8) ∧
      W.cell? ⟨g6, o6 + i * 2, none⟩ = some (.int .i64 e.k.c) ∧ W.cell? ⟨g6, o6 + i * 2 + 1, none⟩ = some (.int .i64 e.k.g) ∧ W.cell? ⟨g7, o7 + i, none⟩ = some (.int .i64 e.f) ∧ W.cell? ⟨g8, o8 + i, none⟩ = some (.bool e.d) := by
  have hl := (List.getElem?_eq_some_iff.1 hi).1
  subst hn
  obtain ⟨g6, o6, c6, e6, -, k6⟩ := h.r6.some_ (by omega)
  obtain ⟨g7, o7, c7, e7, -, k7⟩ := h.r7.some_ (by omega)
  obtain ⟨g8, o8, c8, e8, -, k8⟩ := h.r8.some_ (by omega)
  have hm : (ls.map (·.k)).getD i pl0 = e.k := by rw [List.getD_eq_getElem?_getD, List.getElem?_map, hi]; rfl
  obtain ⟨f1, f2⟩ := flatP_at (l := ls.map (·.k)) (j := i) (by rw [List.length_map]; exact hl)
  rw [hm] at f1 f2
  refine ⟨g6, o6, c6, g7, o7, c7, g8, o8, c8, ⟨e6, e7, e8⟩, k6 _ _ f1, ?_, k7 _ _ ?_, k8 _ _ ?_⟩
  · rw [Nat.add_assoc]; exact k6 _ _ f2
  · unfold fL; rw [List.getElem?_map, hi]; rfl
  · unfold dL; rw [List.getElem?_map, hi]; rfl
end
end Go.Proofs.Ytcfjkppgfjlbbaa
