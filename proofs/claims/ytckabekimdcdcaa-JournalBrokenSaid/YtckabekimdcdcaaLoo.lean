/-
  Maps from numbers to blocks of bytes that the program keeps: what such a map holds, looked up, written, cleared and gone through. Nothing of the program is named here.
  Conditions: none beside those that each line bears.
-/
import Derived.Test.YtckabekimdcdcaaOver
import Derived.Maps.RangeWalk
import Derived.Maps.OwnSet
import Derived.Lib.Hide
namespace Go.Proofs.Ytckabekimdcdcaa
open Go.RowKit
open Go.Maps (Keyed)
open Go.WideElems (Fit rd rg pl rd_key rd_val rg_of)
open Go.WideShapes
set_option linter.unusedVariables false

theorem bv_inj {x y : Nat} (h : bv x = bv y) : x = y := by
  unfold bv at h
  injection h with _ h
  omega
theorem map_bv_inj : ∀ {xs ys : List Nat}, xs.map bv = ys.map bv → xs = ys
  | [], [], _ => rfl
  | [], y :: s, h => by simp at h
  | x :: r, [], h => by simp at h
  | x :: r, y :: s, h => by
    rw [List.map_cons, List.map_cons] at h
    injection h with h1 h2
    rw [bv_inj h1, map_bv_inj h2]

/-- A block of bytes as one value. -/
def secV (xs : List Nat) : Value := .agg (xs.map bv).toArray
theorem secV_inj {xs ys : List Nat} (h : secV xs = secV ys) : xs = ys := by
  unfold secV at h
  injection h with h
  exact map_bv_inj (by simpa using congrArg Array.toList h)
abbrev SDat := DataW (List Nat)
open Classical in
/-- What such a value reads as. -/
noncomputable def secR (v : Value) : Option (SDat × List MemPlace) := if h : ∃ xs, v = secV xs then some (.held (Classical.choose h), []) else none
theorem secR_mk (xs : List Nat) : secR (secV xs) = some (.held xs, []) := by
  have h : ∃ ys, secV xs = secV ys := ⟨xs, rfl⟩
  unfold secR
  rw [dif_pos h, secV_inj (Classical.choose_spec h).symm]
theorem secR_inv {v : Value} {y : SDat × List MemPlace} (h : secR v = some y) : ∃ xs, v = secV xs ∧ y = (.held xs, []) := by
  unfold secR at h
  split at h
  · rename_i hx
    injection h with h
    exact ⟨_, Classical.choose_spec hx, h.symm⟩
  · cases h

/-- What the map has at a number. -/
def lookD (D : SDat) (k : Nat) : Option (List Nat) :=
  match D.atKey (.int .i64 (k : Int)) .nil with
  | .held xs => some xs
  | _ => none

section
variable {P : Program} {k : TypeId} {w w' : World} {b m : Nat} {D : SDat}
theorem own_held (h : w.ownsMap P k secR b m D) (K : Keyed P k) : ∃ E, D = .map E ∧ E.Pairwise (fun p q => p.1 ≠ q.1) ∧ (∀ p ∈ E, WideAt.IsKeyLit p.1 ∧ ∃ xs, p.2 = .held xs) ∧ w.ownsMap P k secR b E.length D := by
  obtain ⟨es, clock, hb, F, hs, rfl⟩ := h
  refine ⟨_, rfl, ((sorted_perm _).pairwise_iff (fun {_ _} hne => Ne.symm hne)).2 (Maps.fit_apart K F), fun p hp => ?_, es, clock, hb, F, by rw [length_sorted]; simp, rfl⟩
  obtain ⟨x, hx, rfl⟩ := List.mem_map.1 (mem_sorted.1 hp)
  obtain ⟨y, hy⟩ := F.reads x hx
  rw [rg_of hy]
  obtain ⟨z, hz, h2⟩ := rd_val hy
  obtain ⟨xs, _, rfl⟩ := secR_inv hz
  exact ⟨K.key (rd_key hy), xs, h2⟩
theorem own_far (h : w.ownsMap P k secR b m D) (hb : w'.heap[b]? = w.heap[b]?) : w'.ownsMap P k secR b m D := by
  obtain ⟨es, clock, h1, h2⟩ := h
  exact ⟨es, clock, hb.trans h1, h2⟩
theorem has_look (h : w.ownsMap P k secR b m D) (K : Keyed P k) (j : Nat) : Maps.has D (.int .i64 (j : Int)) = (lookD D j).isSome := by
  obtain ⟨E, rfl, _, h2, _⟩ := own_held h K
  unfold lookD
  simp only [DataW.atKey, Maps.has]
  cases hf : E.find? (fun p => p.1.sameKey (.int .i64 (j : Int))) with
  | none =>
    rw [List.find?_eq_none] at hf
    simp only [Option.isSome_none]
    exact List.any_eq_false.2 hf
  | some p =>
    obtain ⟨xs, hx⟩ := (h2 p (List.mem_of_find?_eq_some hf)).2
    simp only [hx, Option.isSome_some]
    exact List.any_eq_true.2 ⟨p, List.mem_of_find?_eq_some hf, by have := List.find?_some hf; exact this⟩
theorem at_look (h : w.ownsMap P k secR b m D) (K : Keyed P k) {j : Nat} {xs : List Nat} (hl : lookD D j = some xs) (zd : SDat) : D.atKey (.int .i64 (j : Int)) zd = .held xs := by
  obtain ⟨E, rfl, _, h2, _⟩ := own_held h K
  unfold lookD at hl
  simp only [DataW.atKey] at hl ⊢
  cases hf : E.find? (fun p => p.1.sameKey (.int .i64 (j : Int))) with
  | none => rw [hf] at hl; simp at hl
  | some p =>
    obtain ⟨ys, hx⟩ := (h2 p (List.mem_of_find?_eq_some hf)).2
    rw [hf] at hl
    simp only [hx, Option.some.injEq] at hl ⊢
    rw [hl]
end

theorem length_below : ∀ (n : Nat) (l : List Nat), l.Nodup → (∀ x ∈ l, x < n) → l.length ≤ n
  | 0, l, _, h => by
    cases l with
    | nil => exact Nat.le_refl _
    | cons x r => exact absurd (h x (List.mem_cons_self ..)) (by omega)
  | n + 1, l, hd, h => by
    by_cases hn : n ∈ l
    · have h1 := List.length_erase_of_mem hn
      have h2 := length_below n (l.erase n) (hd.erase n) (fun x hx => by
        have hx1 := (List.Nodup.mem_erase_iff hd).1 hx
        have := h x hx1.2
        omega)
      omega
    · have h2 := length_below n l hd (fun x hx => by
        have := h x hx
        have : x ≠ n := fun e => hn (e ▸ hx)
        omega)
      omega

/-- Block b is a map from numbers below n to blocks of bytes: L. -/
def Loo (P : Program) (k : TypeId) (w : World) (b n : Nat) (L : Nat → Option (List Nat)) : Prop :=
  ∃ m D, w.ownsMap P k secR b m D ∧ (∀ j, lookD D j = L j) ∧ ∀ kl, Maps.has D kl = true → ∃ j : Nat, j < n ∧ kl = .int .i64 (j : Int)

section
variable {P : Program} {k t e : TypeId} {w w' : World} {b n : Nat} {L : Nat → Option (List Nat)}
theorem Loo.far (h : Loo P k w b n L) (hb : w'.heap[b]? = w.heap[b]?) : Loo P k w' b n L := by
  obtain ⟨m, D, h1, h2⟩ := h
  exact ⟨m, D, own_far h1 hb, h2⟩
theorem Loo.blk (h : Loo P k w b n L) : b < w.heap.size := by
  obtain ⟨m, D, h1, _⟩ := h
  exact h1.lt
theorem Loo.map_ (h : Loo P k w b n L) : ∃ es clock, w.heap[b]? = some (.map es clock) := by
  obtain ⟨m, D, ⟨es, clock, h1, _⟩, _⟩ := h
  exact ⟨es, clock, h1⟩
theorem Loo.lt (h : Loo P k w b n L) (K : Keyed P k) {j : Nat} {xs : List Nat} (hj : L j = some xs) : j < n := by
  obtain ⟨m, D, h1, h2, h3⟩ := h
  have hh := has_look h1 K j
  rw [h2 j, hj] at hh
  obtain ⟨i, hi, e⟩ := h3 _ hh
  injection e with _ e
  omega
theorem Loo.tight (h : Loo P k w b n L) (K : Keyed P k) : ∃ D, w.ownsMap P k secR b n D ∧ (∀ j, lookD D j = L j) ∧ ∀ kl, Maps.has D kl = true → ∃ j : Nat, j < n ∧ kl = .int .i64 (j : Int) := by
  obtain ⟨m, D, h1, h2, h3⟩ := h
  obtain ⟨E, rfl, hp, hk, ht⟩ := own_held h1 K
  refine ⟨_, ht.mono ?_, h2, h3⟩
  have key : ∀ p ∈ E, ∃ j : Nat, j < n ∧ p.1 = .int .i64 (j : Int) := fun p hp' => h3 p.1 (List.any_eq_true.2 ⟨p, hp', WideAt.sameKey_self (hk p hp').1⟩)
  have nat : ∀ l : Lit, Nat := fun l => match l with | .int _ a => a.toNat | _ => 0
  let f : Lit × SDat → Nat := fun p => match p.1 with | .int _ a => a.toNat | _ => 0
  have hf : ∀ p ∈ E, f p < n ∧ p.1 = .int .i64 ((f p : Nat) : Int) := by
    intro p hp'
    obtain ⟨j, hj, ej⟩ := key p hp'
    have : f p = j := by show (match p.1 with | .int _ a => a.toNat | _ => 0) = j; rw [ej]; simp
    rw [this]
    exact ⟨hj, ej⟩
  have h5 := length_below n (E.map f) (List.pairwise_map.2 (hp.imp_of_mem fun {p q} hp' hq' hne e => hne (by rw [(hf p hp').2, (hf q hq').2, e]))) (fun x hx => by
    obtain ⟨p, hp', rfl⟩ := List.mem_map.1 hx
    exact (hf p hp').1)
  simpa using h5

theorem Loo.made (w : World) (P : Program) (k : TypeId) (n : Nat) : Loo P k (w.alloc (.map #[] 0)) w.heap.size n (fun _ => none) :=
  ⟨0, .map [], World.ownsMap_made _ _ _ _, fun j => rfl, fun kl h => by cases h⟩

theorem wf_nat (j : Nat) (hj : j ≤ 1000000) : (Lit.int .i64 (j : Int)).wf = true := WalkArith.wf_i64 (by omega)

/-- 'v, ok := m[j]'. -/
theorem Loo.run_look (h : Loo P k w b n L) (hk : P.underlying k = some (.int .i64)) (ht : P.underlying t = some (.map k e)) {z : List Nat} (hz : (zeroValue e).run P w = .ok (secV z) w) (j : Nat) (hj : j ≤ 1000000) :
    (Instr.lookup t (.map (some b)) (.int .i64 (j : Int)) true).run P w = .ok (.tuple #[secV ((L j).getD z), .bool (L j).isSome]) w := by
  obtain ⟨m, D, h1, h2, h3⟩ := h
  have K := Maps.int_keyed hk
  obtain ⟨v, ps, hrun, hv⟩ := h1.look_ok K ht hz (secR_mk z) (Maps.keyOf_int_mk hk (wf_nat j hj))
  obtain ⟨xs, rfl, hx⟩ := secR_inv hv
  rw [has_look h1 K, h2] at hrun
  injection hx with hx _
  cases hl : L j with
  | some ys =>
    rw [at_look h1 K (by rw [h2, hl])] at hx
    injection hx with hx
    rw [hrun, hl, hx]
    rfl
  | none =>
    have hno : Maps.has D (.int .i64 (j : Int)) = false := by rw [has_look h1 K, h2, hl]; rfl
    rw [Maps.atKey_of_not_has hno] at hx
    injection hx with hx
    rw [hrun, hl, hx]
    rfl
/-- 'm[j]'. -/
theorem Loo.run_get (h : Loo P k w b n L) (hk : P.underlying k = some (.int .i64)) (ht : P.underlying t = some (.map k e)) {z : List Nat} (hz : (zeroValue e).run P w = .ok (secV z) w) (j : Nat) (hj : j ≤ 1000000) :
    (Instr.lookup t (.map (some b)) (.int .i64 (j : Int)) false).run P w = .ok (secV ((L j).getD z)) w := by
  obtain ⟨m, D, h1, h2, h3⟩ := h
  have K := Maps.int_keyed hk
  obtain ⟨v, ps, hrun, hv⟩ := h1.lookup K ht hz (secR_mk z) (Maps.keyOf_int_mk hk (wf_nat j hj))
  obtain ⟨xs, rfl, hx⟩ := secR_inv hv
  injection hx with hx _
  cases hl : L j with
  | some ys =>
    rw [at_look h1 K (by rw [h2, hl])] at hx
    injection hx with hx
    rw [hrun, hx]
    rfl
  | none =>
    have hno : Maps.has D (.int .i64 (j : Int)) = false := by rw [has_look h1 K, h2, hl]; rfl
    rw [Maps.atKey_of_not_has hno] at hx
    injection hx with hx
    rw [hrun, hx]
    rfl
theorem turned_only (h : w.mapTurned w' b) : Only b w w' := by
  refine ⟨h.grown, ?_⟩
  obtain ⟨es, clock, es', clock', hb, rfl⟩ := h
  simp [ChangeMaps.setBlock]
/-- 'm[j] = v'. -/
theorem Loo.run_store (h : Loo P k w b n L) (hk : P.underlying k = some (.int .i64)) (ht : P.underlying t = some (.map k e)) (hn : n ≤ 1000000) (j : Nat) (hj : j < n) (xs : List Nat) :
    ∃ w', (Instr.mapUpdate t (.map (some b)) (.int .i64 (j : Int)) (secV xs)).run P w = .ok () w' ∧ Loo P k w' b n (upd L j (some xs)) ∧ Only b w w' := by
  have K := Maps.int_keyed hk
  obtain ⟨D, h1, h2, h3⟩ := h.tight K
  have hkey := Maps.keyOf_int_mk hk (wf_nat j (by omega))
  obtain ⟨w', hrun, h4, h5⟩ := h1.store K ht (by unfold maxLen; omega) hkey (secR_mk xs)
  refine ⟨w', hrun, ⟨_, _, h4, fun i => ?_, fun kl hkl => ?_⟩, turned_only h5⟩
  · by_cases e : i = j
    · subst e
      rw [upd_same]
      unfold lookD
      rw [Maps.atKey_put_same h1.isMap (K.key hkey)]
    · rw [upd_other _ _ _ e, ← h2 i]
      unfold lookD
      rw [Maps.atKey_put_other (fun he => e (by injection he with _ he; omega))]
  · by_cases e : kl = .int .i64 (j : Int)
    · exact ⟨j, hj, e⟩
    · rw [Maps.has_put_other e] at hkl
      exact h3 kl hkl
/-- 'clear(m)'. -/
theorem Loo.run_clear (h : Loo P k w b n L) (ht : P.underlying t = some (.map k e)) (ty : TypeId) :
    ∃ w', (Builtin.clear_ #[t] ty #[.map (some b)]).run P w = .ok (.tuple #[]) w' ∧ Loo P k w' b n (fun _ => none) ∧ Only b w w' := by
  obtain ⟨m, D, ⟨es, clock, hb, F, hs, rfl⟩, _⟩ := h
  refine ⟨ChangeMaps.setBlock w b (.map #[] clock), ?_, ⟨0, .map [], ⟨#[], clock, ChangeMaps.heap_setBlock_same hb _, ⟨by simp, MapKept.stamped_empty clock, by simp⟩, Nat.le_refl _, rfl⟩, fun j => rfl, fun kl h => by cases h⟩, turned_only ⟨es, clock, #[], clock, hb, rfl⟩⟩
  simp [Builtin.clear_, run_underlying ht, MapKept.run_getObj_map hb, MapKept.run_setObj_map _ hb, Result.andThen, ChangeMaps.setBlock]
end
end Go.Proofs.Ytckabekimdcdcaa
