/-
  Numbers collected out of such a map, and sorted. Nothing of the program is named here.
  Conditions: none beside those that each line bears.
-/
import Derived.Test.YtckabekimdcdcaaRan
import Derived.Shelf.Sort.Plain
import Derived.OwnWalk
namespace Go.Proofs.Ytckabekimdcdcaa
open Go.RowKit Go.Sort
set_option linter.unusedVariables false

abbrev nv (j : Nat) : Value := .int .i64 (j : Int)
/-- The numbers that such a map has, rising. -/
def keysL (n : Nat) (L : Nat → Option (List Nat)) : List Nat := (List.range n).filter fun j => (L j).isSome
/-- Those met so far. -/
def Coll (L : Nat → Option (List Nat)) (left : Nat → Bool) (ss : List Nat) : Prop := ss.Nodup ∧ ∀ j, j ∈ ss ↔ ((L j).isSome = true ∧ left j = false)
section
variable {n : Nat} {L : Nat → Option (List Nat)} {left : Nat → Bool} {ss : List Nat}
theorem Coll.start (L : Nat → Option (List Nat)) : Coll L (fun j => (L j).isSome) [] := ⟨List.nodup_nil, fun j => by show j ∈ [] ↔ ((L j).isSome = true ∧ (L j).isSome = false); cases (L j).isSome <;> simp⟩
theorem Coll.step (h : Coll L left ss) {j : Nat} {xs : List Nat} (hl : left j = true) (hL : L j = some xs) : Coll L (fun i => left i && !(i == j)) (ss ++ [j]) := by
  have hnew : j ∉ ss := fun hx => by have := ((h.2 j).1 hx).2; rw [hl] at this; cases this
  refine ⟨List.nodup_append.2 ⟨h.1, by simp, fun a ha b hb => by simp at hb; subst hb; exact fun e => hnew (e ▸ ha)⟩, fun i => ?_⟩
  by_cases e : i = j
  · subst e
    simp [hL]
  · simp [h.2 i, e]
theorem Coll.few (h : Coll L left ss) (hn : ∀ j xs, L j = some xs → j < n) : ss.length ≤ n :=
  length_below n ss h.1 (fun j hj => by
    obtain ⟨xs, hx⟩ := Option.isSome_iff_exists.1 ((h.2 j).1 hj).1
    exact hn j xs hx)
theorem Coll.perm (h : Coll L left ss) (hl : ∀ j, left j = false) (hn : ∀ j xs, L j = some xs → j < n) : ss.Perm (keysL n L) := by
  refine (List.perm_ext_iff_of_nodup h.1 (List.nodup_range.filter _)).2 fun j => ?_
  rw [h.2 j, hl j]
  rw [List.mem_filter, List.mem_range]
  constructor
  · rintro ⟨h1, _⟩
    obtain ⟨xs, hx⟩ := Option.isSome_iff_exists.1 h1
    exact ⟨hn j xs hx, h1⟩
  · rintro ⟨_, h1⟩
    exact ⟨h1, rfl⟩
theorem keysL_sorted (n : Nat) (L : Nat → Option (List Nat)) : (keysL n L).Pairwise (fun a b => a < b) := List.pairwise_lt_range.filter _
theorem sorted_keys {ss ks : List Nat} (h : ss.Perm ks) (hs : ks.Pairwise (fun a b => a < b)) : ((ss.map fun j : Nat => (j : Int)).mergeSort fun x y => decide (x ≤ y)) = ks.map fun j : Nat => (j : Int) := by
  have tr : ∀ a b c : Int, decide (a ≤ b) = true → decide (b ≤ c) = true → decide (a ≤ c) = true := fun a b c h1 h2 => by simp only [decide_eq_true_eq] at *; omega
  have to : ∀ a b : Int, (decide (a ≤ b) || decide (b ≤ a)) = true := fun a b => by simp only [Bool.or_eq_true, decide_eq_true_eq]; omega
  refine List.Perm.eq_of_pairwise (le := fun a b : Int => decide (a ≤ b) = true) (fun a b _ _ h1 h2 => by simp only [decide_eq_true_eq] at h1 h2; omega) (List.pairwise_mergeSort tr to _) ?_ ((List.mergeSort_perm _ _).trans (h.map _))
  exact List.pairwise_map.2 (hs.imp fun {a b} hab => by simp only [decide_eq_true_eq]; omega)
end

section
variable {w : World} {base g cap n : Nat} {e : TypeId} {os : Array Obj} {cur : Array Value}
theorem holds_ints {zs : List Int} (hb : w.heap[g]? = some (.cells cur e (0, 0))) (ht : cur.toList.take zs.length = zs.map (Value.int .i64)) : Holds (Value.int .i64) w g 0 zs.toArray := by
  intro j hj
  have hj' : j < zs.length := by simpa using hj
  refine ⟨?_, by simp [World.frozen?, hb]⟩
  have h1 : (cur.toList.take zs.length)[j]? = (zs.map (Value.int .i64))[j]? := by rw [ht]
  rw [List.getElem?_take_of_lt hj'] at h1
  simp only [World.cell?, hb, Nat.zero_add]
  simp only [Option.isSome_none, Bool.false_eq_true, if_false]
  rw [← Array.getElem?_toList, h1]
  simp [hj']
theorem heap_sorted_ints (d : Array Int) (hb : w.heap[g]? = some (.cells cur e (0, 0))) :
    (grow (putRow (Value.int .i64) (Sort.ahead w n) g 0 d) os).heap[g]? = some (.cells (putCells (Value.int .i64) 0 d cur) e (0, 0)) := by
  have hg : g < w.heap.size := (Array.getElem?_eq_some_iff.1 hb).1
  rw [heap_grow_old _ _ (by simpa using hg)]
  simp [putRow, mapBlock, Sort.ahead, Array.getElem?_modify, hb, onCells]
theorem grown_sorted_ints (d : Array Int) : w.grownBy (grow (putRow (Value.int .i64) (Sort.ahead w n) g 0 d) os) (some g) := by
  refine ⟨rfl, rfl, rfl, by simp, fun k hk hne => ?_⟩
  rw [heap_grow_old _ _ (by simpa using hk)]
  have : g ≠ k := fun e => hne (by rw [e])
  simp [putRow, mapBlock, Sort.ahead, Array.getElem?_modify, this]
theorem take_putCells_ints (cur : Array Value) (ts : List Int) (h : ts.length ≤ cur.size) : (putCells (Value.int .i64) 0 ts.toArray cur).toList.take ts.length = ts.map (Value.int .i64) := by
  apply List.ext_getElem?
  intro j
  by_cases hj : j < ts.length
  · rw [List.getElem?_take_of_lt hj, Array.getElem?_toList]
    simp [putCells, hj, show j < cur.size by omega]
  · rw [List.getElem?_take_eq_none (by omega), List.getElem?_eq_none (by simp; omega)]
theorem own_sorted_ints {ss ts : List Int} (hl : ts.length = ss.length) (hbase : base ≤ g) (hb : w.heap[g]? = some (.cells cur e (0, 0)))
    (h1 : ss.length ≤ cap) (h2 : cap ≤ maxLen) (h3 : cur.size = cap * 1) :
    (grow (putRow (Value.int .i64) (Sort.ahead w n) g 0 ts.toArray) os).ownsRow base e 1 (.slice (some ⟨g, 0, none⟩) ss.length cap) ss.length (ts.map (Value.int .i64)) :=
  ⟨by simp [hl], .inr ⟨g, cap, _, rfl, hbase, heap_sorted_ints _ hb, h1, h2, by simp [putCells, h3], by rw [Nat.mul_one, ← hl]; exact take_putCells_ints cur ts (by omega)⟩⟩
end

section
variable {P : Program} {k t e : TypeId} {w w' : World} {b r n cnt : Nat} {L : Nat → Option (List Nat)} {left : Nat → Bool}
/-- 'len(m)'. -/
theorem wpList_len_loo {ops : Array Oper} {rest : List Oper} {o : Oper} {a : Act} {Q : Exit → Act → World → Prop} (hg : o.guard = none) (mo : Operand) (hop : o.op = Op.call { callee := Callee.builtin Builtin.len, args := #[mo], argTypes := #[t] }) (hk : P.underlying k = some (.int .i64)) (ht : P.underlying t = some (.map k e))
    (hm : a.eval mo = .map (some b)) (h : Loo P k w b n L)
    (hK : ∀ c : Nat, c ≤ n → wpList P ops Q rest (a.put o.dst (.int .i64 (c : Int))) w) :
    wpList P ops Q (o :: rest) a w := by
  obtain ⟨D, h1, _, _⟩ := h.tight (Maps.int_keyed hk)
  exact wpList_len_own w hg mo t hop k e ht secR b n D hm h1 (hK _ h1.size_le)
theorem row_ne_ran {base size m : Nat} {et : TypeId} {v : Value} {xs : List Value} (h : w.ownsRow base et size v m xs) (hr : Ran P k w b r n L left cnt) : some r ≠ v.ownBlock := by
  obtain ⟨_, _, _, hr, _⟩ := hr
  obtain ⟨_, _, _, _, _, _, _, _, _, hit, _⟩ := hr
  rcases h.2 with ⟨rfl, _⟩ | ⟨g, cap, cur, rfl, _, hb, _⟩
  · simp [Value.ownBlock]
  · intro e1
    have : r = g := by simpa [Value.ownBlock] using e1
    subst this
    rw [hit] at hb
    cases hb
theorem row_below {base size m : Nat} {et : TypeId} {v : Value} {xs : List Value} (h : w.ownsRow base et size v m xs) {i : Nat} (hi : i < base) : some i ≠ v.ownBlock := fun e1 => by
  have := (h.lt i e1.symm).1
  omega
theorem Ran.grown (h : Ran P k w b r n L left cnt) {row : Option Nat} (hg : w.grownBy w' row) (hb : some b ≠ row) (hr : some r ≠ row) : Ran P k w' b r n L left cnt :=
  h.far (hg.block b h.loo.blk hb) (hg.block r h.lt hr)
end
end Go.Proofs.Ytckabekimdcdcaa
