/-
  Maps from numbers to values of whatever kind that the program keeps: what such a map holds, looked up, written, dropped; its keys. Nothing of the program is named here.
  Conditions: none beside those that each line bears.
-/
import Derived.Test.YtfnegbcpiejdaabBas
import Derived.Lib.SlKeysI
namespace Go.Proofs.Ytfnegbcpiejdaab
open Go.RowKit
open Go.Maps (Keyed)
open Go.WideElems (Fit rd rg pl rd_key rd_val rg_of)
open Go.WideShapes
set_option linter.unusedVariables false

abbrev VDat := DataW Value
/-- A value reads as itself. -/
def valR (v : Value) : Option (VDat × List MemPlace) := some (.held v, [])
theorem valR_inv {v : Value} {y : VDat × List MemPlace} (h : valR v = some y) : y = (.held v, []) := by
  unfold valR at h
  injection h with h
  exact h.symm
/-- What the map has at a number. -/
def lookV (D : VDat) (k : Nat) : Option Value :=
  match D.atKey (.int .i64 (k : Int)) .nil with
  | .held v => some v
  | _ => none

section
variable {P : Program} {k : TypeId} {w w' : World} {b m : Nat} {D : VDat}
theorem ownV_held (h : w.ownsMap P k valR b m D) (K : Keyed P k) : ∃ E, D = .map E ∧ E.Pairwise (fun p q => p.1 ≠ q.1) ∧ (∀ p ∈ E, WideAt.IsKeyLit p.1 ∧ ∃ v, p.2 = .held v) ∧ w.ownsMap P k valR b E.length D := by
  obtain ⟨es, clock, hb, F, hs, rfl⟩ := h
  refine ⟨_, rfl, ((sorted_perm _).pairwise_iff (fun {_ _} hne => Ne.symm hne)).2 (Maps.fit_apart K F), fun p hp => ?_, es, clock, hb, F, by rw [length_sorted]; simp, rfl⟩
  obtain ⟨x, hx, rfl⟩ := List.mem_map.1 (mem_sorted.1 hp)
  obtain ⟨y, hy⟩ := F.reads x hx
  rw [rg_of hy]
  obtain ⟨z, hz, h2⟩ := rd_val hy
  have := valR_inv hz
  subst this
  exact ⟨K.key (rd_key hy), _, h2⟩
theorem hasV_look (h : w.ownsMap P k valR b m D) (K : Keyed P k) (j : Nat) : Maps.has D (.int .i64 (j : Int)) = (lookV D j).isSome := by
  obtain ⟨E, rfl, _, h2, _⟩ := ownV_held h K
  unfold lookV
  simp only [DataW.atKey, Maps.has]
  cases hf : E.find? (fun p => p.1.sameKey (.int .i64 (j : Int))) with
  | none =>
    rw [List.find?_eq_none] at hf
    simp only [Option.isSome_none]
    exact List.any_eq_false.2 hf
  | some p =>
    obtain ⟨xs, hx⟩ := (h2 p (List.mem_of_find?_eq_some hf)).2
    simp only [hx, Option.isSome_some]
    exact List.any_eq_true.2 ⟨p, List.mem_of_find?_eq_some hf, by have := List.find?_some hf; exact this⟩
theorem atV_look (h : w.ownsMap P k valR b m D) (K : Keyed P k) {j : Nat} {v : Value} (hl : lookV D j = some v) (zd : VDat) : D.atKey (.int .i64 (j : Int)) zd = .held v := by
  obtain ⟨E, rfl, _, h2, _⟩ := ownV_held h K
  unfold lookV at hl
  simp only [DataW.atKey] at hl ⊢
  cases hf : E.find? (fun p => p.1.sameKey (.int .i64 (j : Int))) with
  | none => rw [hf] at hl; simp at hl
  | some p =>
    obtain ⟨ys, hx⟩ := (h2 p (List.mem_of_find?_eq_some hf)).2
    rw [hf] at hl
    simp only [hx, Option.some.injEq] at hl ⊢
    rw [hl]
end

/-- Block b is a map from numbers below n to values: L. -/
def MapV (P : Program) (k : TypeId) (w : World) (b n : Nat) (L : Nat → Option Value) : Prop :=
  ∃ m D, w.ownsMap P k valR b m D ∧ (∀ j, lookV D j = L j) ∧ ∀ kl, Maps.has D kl = true → ∃ j : Nat, j < n ∧ kl = .int .i64 (j : Int)

section
variable {P : Program} {k t e : TypeId} {w w' : World} {b n : Nat} {L : Nat → Option Value}
theorem MapV.far (h : MapV P k w b n L) (hb : w'.heap[b]? = w.heap[b]?) : MapV P k w' b n L := by
  obtain ⟨m, D, ⟨es, clock, h1, h2⟩, h3⟩ := h
  exact ⟨m, D, ⟨es, clock, hb.trans h1, h2⟩, h3⟩
theorem MapV.blk (h : MapV P k w b n L) : b < w.heap.size := by
  obtain ⟨m, D, h1, _⟩ := h
  exact h1.lt
theorem MapV.lt (h : MapV P k w b n L) (K : Keyed P k) {j : Nat} {v : Value} (hj : L j = some v) : j < n := by
  obtain ⟨m, D, h1, h2, h3⟩ := h
  have hh := hasV_look h1 K j
  rw [h2 j, hj] at hh
  obtain ⟨i, hi, e⟩ := h3 _ hh
  injection e with _ e
  omega
theorem MapV.tight (h : MapV P k w b n L) (K : Keyed P k) : ∃ D, w.ownsMap P k valR b n D ∧ (∀ j, lookV D j = L j) ∧ ∀ kl, Maps.has D kl = true → ∃ j : Nat, j < n ∧ kl = .int .i64 (j : Int) := by
  obtain ⟨m, D, h1, h2, h3⟩ := h
  obtain ⟨E, rfl, hp, hk, ht⟩ := ownV_held h1 K
  refine ⟨_, ht.mono ?_, h2, h3⟩
  have key : ∀ p ∈ E, ∃ j : Nat, j < n ∧ p.1 = .int .i64 (j : Int) := fun p hp' => h3 p.1 (List.any_eq_true.2 ⟨p, hp', WideAt.sameKey_self (hk p hp').1⟩)
  let f : Lit × VDat → Nat := fun p => match p.1 with | .int _ a => a.toNat | _ => 0
  have hf : ∀ p ∈ E, f p < n ∧ p.1 = .int .i64 ((f p : Nat) : Int) := by
    intro p hp'
    obtain ⟨j, hj, ej⟩ := key p hp'
    have : f p = j := by show (match p.1 with | .int _ a => a.toNat | _ => 0) = j; rw [ej]; simp
    rw [this]
    exact ⟨hj, ej⟩
  have h5 := length_below n (E.map f) (List.pairwise_map.2 (hp.imp_of_mem fun {p q} hp' hq' hne e => hne (by rw [(hf p hp').2, (hf q hq').2, e]))) (fun x hx => by
    obtain ⟨p, hp', rfl⟩ := List.mem_map.1 hx
    exact (hf p hp').1)
  simpa using h5
theorem MapV.made (w : World) (P : Program) (k : TypeId) (n : Nat) : MapV P k (w.alloc (.map #[] 0)) w.heap.size n (fun _ => none) :=
  ⟨0, .map [], World.ownsMap_made _ _ _ _, fun j => rfl, fun kl h => by cases h⟩

/-- 'v, ok := m[j]', at any number. -/
theorem MapV.run_look (h : MapV P k w b n L) (hk : P.underlying k = some (.int .i64)) (ht : P.underlying t = some (.map k e)) {z : Value} (hz : (zeroValue e).run P w = .ok z w) (j : Nat) (hj : (Lit.int .i64 (j : Int)).wf = true) :
    (Instr.lookup t (.map (some b)) (.int .i64 (j : Int)) true).run P w = .ok (.tuple #[(L j).getD z, .bool (L j).isSome]) w := by
  obtain ⟨m, D, h1, h2, h3⟩ := h
  have K := Maps.int_keyed hk
  obtain ⟨v, ps, hrun, hv⟩ := h1.look_ok K ht hz (show valR z = some (.held z, []) from rfl) (Maps.keyOf_int_mk hk hj)
  have hx := valR_inv hv
  rw [hasV_look h1 K, h2] at hrun
  injection hx with hx _
  cases hl : L j with
  | some y =>
    rw [atV_look h1 K (by rw [h2, hl])] at hx
    injection hx with hx
    rw [hrun, hl, hx]
    rfl
  | none =>
    have hno : Maps.has D (.int .i64 (j : Int)) = false := by rw [hasV_look h1 K, h2, hl]; rfl
    rw [Maps.atKey_of_not_has hno] at hx
    injection hx with hx
    rw [hrun, hl, hx]
    rfl
/-- 'm[j]'. -/
theorem MapV.run_get (h : MapV P k w b n L) (hk : P.underlying k = some (.int .i64)) (ht : P.underlying t = some (.map k e)) {z : Value} (hz : (zeroValue e).run P w = .ok z w) (j : Nat) (hj : (Lit.int .i64 (j : Int)).wf = true) :
    (Instr.lookup t (.map (some b)) (.int .i64 (j : Int)) false).run P w = .ok ((L j).getD z) w := by
  obtain ⟨m, D, h1, h2, h3⟩ := h
  have K := Maps.int_keyed hk
  obtain ⟨v, ps, hrun, hv⟩ := h1.lookup K ht hz (show valR z = some (.held z, []) from rfl) (Maps.keyOf_int_mk hk hj)
  have hx := valR_inv hv
  injection hx with hx _
  cases hl : L j with
  | some y =>
    rw [atV_look h1 K (by rw [h2, hl])] at hx
    injection hx with hx
    rw [hrun, hx]
    rfl
  | none =>
    have hno : Maps.has D (.int .i64 (j : Int)) = false := by rw [hasV_look h1 K, h2, hl]; rfl
    rw [Maps.atKey_of_not_has hno] at hx
    injection hx with hx
    rw [hrun, hx]
    rfl
/-- 'm[j] = v'. -/
theorem MapV.run_store (h : MapV P k w b n L) (hk : P.underlying k = some (.int .i64)) (ht : P.underlying t = some (.map k e)) (hn : n ≤ 1000000) (j : Nat) (hj : j < n) (v : Value) :
    ∃ w', (Instr.mapUpdate t (.map (some b)) (.int .i64 (j : Int)) v).run P w = .ok () w' ∧ MapV P k w' b n (upd L j (some v)) ∧ Only b w w' := by
  have K := Maps.int_keyed hk
  obtain ⟨D, h1, h2, h3⟩ := h.tight K
  have hkey := Maps.keyOf_int_mk hk (wf_nat j (by omega))
  obtain ⟨w', hrun, h4, h5⟩ := h1.store K ht (by unfold maxLen; omega) hkey (show valR v = some (.held v, []) from rfl)
  refine ⟨w', hrun, ⟨_, _, h4, fun i => ?_, fun kl hkl => ?_⟩, turned_only h5⟩
  · by_cases e : i = j
    · subst e
      rw [upd_same]
      unfold lookV
      rw [Maps.atKey_put_same h1.isMap (K.key hkey)]
    · rw [upd_other _ _ _ e, ← h2 i]
      unfold lookV
      rw [Maps.atKey_put_other (fun he => e (by injection he with _ he; omega))]
  · by_cases e : kl = .int .i64 (j : Int)
    · exact ⟨j, hj, e⟩
    · rw [Maps.has_put_other e] at hkl
      exact h3 kl hkl
theorem MapV.own (h : MapV P k w b n L) (hk : P.underlying k = some (.int .i64)) : ∃ D, w.ownsMap P k valR b n D ∧ (intKeys D).Nodup ∧ Maps.size D ≤ n ∧ ∀ x, Maps.has D (.int .i64 x) = true ↔ ∃ j : Nat, x = (j : Int) ∧ (L j).isSome = true := by
  have K := Maps.int_keyed hk
  obtain ⟨D, h1, h2, h3⟩ := h.tight K
  obtain ⟨E, rfl, hp, hkl, _⟩ := ownV_held h1 K
  refine ⟨_, h1, ?_, h1.size_le, fun x => ?_⟩
  · show (E.map fun p => intOf p.1).Nodup
    refine List.pairwise_map.2 (hp.imp_of_mem fun {p q} hp' hq' hne e => hne ?_)
    obtain ⟨a, _, ha⟩ := h3 p.1 (List.any_eq_true.2 ⟨p, hp', WideAt.sameKey_self (hkl p hp').1⟩)
    obtain ⟨c, _, hc⟩ := h3 q.1 (List.any_eq_true.2 ⟨q, hq', WideAt.sameKey_self (hkl q hq').1⟩)
    rw [ha, hc] at e ⊢
    exact congrArg _ e
  · constructor
    · intro hx
      obtain ⟨j, _, e⟩ := h3 _ hx
      injection e with _ e
      subst e
      refine ⟨j, rfl, ?_⟩
      rw [← h2 j, ← hasV_look h1 K j]
      exact hx
    · rintro ⟨j, rfl, hj⟩
      rw [hasV_look h1 K j, h2 j]
      exact hj
/-- The keys, in whatever order. -/
theorem MapV.keys (h : MapV P k w b n L) (hk : P.underlying k = some (.int .i64)) : ∃ D, w.ownsMap P k valR b n D ∧ ∀ ss : List Int, ss.Nodup → (∀ x, x ∈ ss ↔ Maps.has D (.int .i64 x) = true) → ∃ js : List Nat, ss = js.map (fun (j : Nat) => (j : Int)) ∧ js.Nodup ∧ ∀ j, j ∈ js ↔ (L j).isSome = true := by
  have K := Maps.int_keyed hk
  obtain ⟨D, h1, h2, h3⟩ := h.tight K
  refine ⟨D, h1, fun ss hnd hss => ⟨ss.map Int.toNat, ?_, ?_, fun j => ?_⟩⟩
  · rw [List.map_map]
    have e : ss.map ((fun (j : Nat) => (j : Int)) ∘ Int.toNat) = ss.map id := List.map_congr_left fun x hx => by
      obtain ⟨j, _, e⟩ := h3 _ ((hss x).1 hx)
      injection e with _ e
      show ((x.toNat : Nat) : Int) = x
      omega
    rw [e, List.map_id]
  · refine List.pairwise_map.2 (hnd.imp_of_mem fun {x y} hx hy hne e => hne ?_)
    obtain ⟨i, _, e1⟩ := h3 _ ((hss x).1 hx)
    obtain ⟨j, _, e2⟩ := h3 _ ((hss y).1 hy)
    injection e1 with _ e1
    injection e2 with _ e2
    omega
  · rw [← h2 j, ← hasV_look h1 K j]
    constructor
    · intro hj
      obtain ⟨x, hx, rfl⟩ := List.mem_map.1 hj
      obtain ⟨i, _, e⟩ := h3 _ ((hss x).1 hx)
      have hx' := (hss x).1 hx
      injection e with _ e
      rw [show ((x.toNat : Nat) : Int) = x by omega]
      exact hx'
    · intro hj
      exact List.mem_map.2 ⟨(j : Int), (hss _).2 hj, by simp⟩
end
end Go.Proofs.Ytfnegbcpiejdaab
