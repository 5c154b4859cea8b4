/-
  Such a map gone through, in whatever order. Nothing of the program is named here.
  Conditions: none beside those that each line bears.
-/
import Derived.Test.YtckabekimdcdcaaLoo
namespace Go.Proofs.Ytckabekimdcdcaa
open Go.RowKit
open Go.Maps (Keyed)
set_option linter.unusedVariables false

/-- 'for j, v := range m' under way: which entries are still to come, and how many. -/
def Ran (P : Program) (k : TypeId) (w : World) (b r n : Nat) (L : Nat → Option (List Nat)) (left : Nat → Bool) (cnt : Nat) : Prop :=
  ∃ m D lf, w.ranges P k secR b r m D lf cnt ∧ (∀ j, lookD D j = L j) ∧ (∀ kl, Maps.has D kl = true → ∃ j : Nat, j < n ∧ kl = .int .i64 (j : Int)) ∧ (∀ j : Nat, lf (.int .i64 (j : Int)) = left j) ∧ ∀ kl, lf kl = true → Maps.has D kl = true

section
variable {P : Program} {k t e : TypeId} {w w' : World} {b r n cnt : Nat} {L : Nat → Option (List Nat)} {left : Nat → Bool}
theorem Ran.loo (h : Ran P k w b r n L left cnt) : Loo P k w b n L := by
  obtain ⟨m, D, lf, h1, h2, h3, _⟩ := h
  exact ⟨m, D, h1.owns, h2, h3⟩
theorem Ran.far (h : Ran P k w b r n L left cnt) (hb : w'.heap[b]? = w.heap[b]?) (hr : w'.heap[r]? = w.heap[r]?) : Ran P k w' b r n L left cnt := by
  obtain ⟨m, D, lf, h1, h2⟩ := h
  refine ⟨m, D, lf, ?_, h2⟩
  obtain ⟨es, clock, since, seen, c0, e1, F, hs, hD, e2, rest⟩ := h1
  exact ⟨es, clock, since, seen, c0, hb.trans e1, F, hs, hD, hr.trans e2, rest⟩
theorem Ran.left_eq (h : Ran P k w b r n L left cnt) : w.rangeLeft b r = cnt := by
  obtain ⟨m, D, lf, h1, _⟩ := h
  exact h1.left_eq
theorem Ran.ne (h : Ran P k w b r n L left cnt) : r ≠ b := by
  obtain ⟨m, D, lf, h1, _⟩ := h
  exact h1.ne
theorem Ran.lt (h : Ran P k w b r n L left cnt) : r < w.heap.size := by
  obtain ⟨m, D, lf, h1, _⟩ := h
  exact h1.lt
theorem Ran.iter (h : Ran P k w b r n L left cnt) : ∃ m s seen c, w.heap[r]? = some (.mapIter m s seen c) := by
  obtain ⟨m, D, lf, ⟨es, clock, since, seen, c0, _, _, _, _, e2, _⟩, _⟩ := h
  exact ⟨_, _, _, _, e2⟩

/-- 'range m'. -/
theorem wpList_range_loo {ops : Array Oper} {rest : List Oper} {o : Oper} {a : Act} {Q : Exit → Act → World → Prop} (hg : o.guard = none) (mo : Operand) (hop : o.op = Op.range t mo) (hk : P.underlying k = some (.int .i64)) (ht : P.underlying t = some (.map k e))
    (hm : a.eval mo = .map (some b)) (h : Loo P k w b n L)
    (hK : ∀ w' cnt', cnt' ≤ n → Hid (Ran P k w' b w.heap.size n L (fun j => (L j).isSome) cnt') → Hid (Below w.heap.size w w') → Hid (w'.heap.size = w.heap.size + 1) → wpList P ops Q rest (a.put o.dst (.pointer (some ⟨w.heap.size, 0, none⟩))) w') :
    wpList P ops Q (o :: rest) a w := by
  have K := Maps.int_keyed hk
  obtain ⟨D, h1, h2, h3⟩ := h.tight K
  refine wpList_range_own w hg mo t hop k e K ht secR b n D hm h1 (fun w' hr hg' hs => hK w' _ h1.size_le ?_ ⟨hg'.os, hg'.tape, hg'.output, hg'.size, fun i hi => hg'.block i hi (by simp)⟩ hs)
  exact ⟨n, D, _, hr, h2, h3, fun j => by rw [has_look h1 K, h2], fun kl hkl => hkl⟩

/-- The step. -/
theorem wpList_next_loo {ops : Array Oper} {rest : List Oper} {o : Oper} {a : Act} {Q : Exit → Act → World → Prop} (hg : o.guard = none) (it : Operand) (hop : o.op = Op.next it false) (hk : P.underlying k = some (.int .i64))
    (hit : a.eval it = .pointer (some ⟨r, 0, none⟩)) (h : Ran P k w b r n L left cnt)
    (hDone : (∀ j, left j = false) → wpList P ops Q rest (a.put o.dst (.tuple #[.bool false])) w)
    (hMore : ∀ (j : Nat) (xs : List Nat) (w' : World) (cnt' : Nat), j < n → left j = true → L j = some xs → Hid (Ran P k w' b r n L (fun i => left i && !(i == j)) cnt') → cnt' < cnt → Hid (Only r w w') →
      (Instr.entry (.pointer (some ⟨r, 0, none⟩))).run P w' = .ok (.tuple #[.int .i64 (j : Int), secV xs]) w' → wpList P ops Q rest (a.put o.dst (.tuple #[.bool true, .int .i64 (j : Int), secV xs])) w') :
    wpList P ops Q (o :: rest) a w := by
  have K := Maps.int_keyed hk
  obtain ⟨m, D, lf, h1, h2, h3, h4, h5⟩ := h
  refine wpList_next_ranges w hg it hop k K secR (Value.int .i64) secV (fun key kl hkey => by obtain ⟨x, rfl, _⟩ := Maps.keyOf_int_inv hk hkey; exact ⟨x, rfl⟩) (fun v y hv => by obtain ⟨xs, rfl, _⟩ := secR_inv hv; exact ⟨xs, rfl⟩)
    b r m D lf cnt hit h1 (fun _ hl => hDone fun j => by rw [← h4, hl]) (fun x xs kl y w' cnt' hkey hlk hv hat hrg hlt hgr hsz hen => ?_)
  obtain ⟨x', ex, rfl, hwx⟩ := Maps.keyOf_int_inv hk hkey
  injection ex with _ ex
  subst ex
  obtain ⟨j, hj, ej⟩ := h3 _ (h5 _ hlk)
  injection ej with _ ej
  subst ej
  rw [secR_mk] at hv
  injection hv with hv
  subst hv
  refine hMore j xs w' cnt' hj (by rw [← h4]; exact hlk) (by rw [← h2]; unfold lookD; rw [hat]) ?_ hlt ⟨hgr, hsz⟩ hen
  refine ⟨m, D, _, hrg, h2, h3, fun i => ?_, fun kl hkl => h5 kl (by simp only [Bool.and_eq_true] at hkl; exact hkl.1)⟩
  rw [h4]
  congr 1
  by_cases e : i = j
  · subst e
    rw [WideAt.sameKey_self (K.key hkey)]
    simp
  · rw [Maps.sameKey_ne (fun he => e (by injection he with _ he; omega))]
    simp [e]

/-- 'clear(m)'. -/
theorem wpList_clear_loo {ops : Array Oper} {rest : List Oper} {o : Oper} {a : Act} {Q : Exit → Act → World → Prop} (hg : o.guard = none) (mo : Operand) (hop : o.op = Op.call { callee := Callee.builtin Builtin.clear, args := #[mo], argTypes := #[t] }) (ht : P.underlying t = some (.map k e))
    (hm : a.eval mo = .map (some b)) (h : Loo P k w b n L)
    (hK : ∀ w', Hid (Loo P k w' b n (fun _ => none)) → Hid (Only b w w') → wpList P ops Q rest (a.put o.dst (.tuple #[])) w') :
    wpList P ops Q (o :: rest) a w := by
  refine wpList_plain hg fun K' hK' => ?_
  obtain ⟨w', hrun, r1, r2⟩ := h.run_clear ht o.type
  unfold Oper.wp
  simp [execOp, hop, resolve, invoke, builtin, hm, hrun, Result.andThen]
  exact hK' _ _ (hK w' r1 r2)
end
end Go.Proofs.Ytckabekimdcdcaa
