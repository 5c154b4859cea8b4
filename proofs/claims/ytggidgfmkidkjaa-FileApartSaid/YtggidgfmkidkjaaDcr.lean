/-
  The contract of disk's Crash; what a crash leaves; what a journal's disk has.
  Conditions: those that each line bears.
-/
import Derived.Test.YtggidgfmkidkjaaBas
import Derived.Shelf.Sort.Plain
import Derived.OwnWalk
import Derived.Test.YtggidgfmkidkjaaDsk
import Derived.Test.YtggidgfmkidkjaaShelf

/-! ## Sorted: Numbers collected out of such a map, and sorted. Nothing of the program is named here.   Conditions: none beside those that each line bears. -/
namespace Go.Proofs.Ytggidgfmkidkjaa
open Go.RowKit Go.Sort
set_option linter.unusedVariables false

abbrev nv (j : Nat) : Value := .int .i64 (j : Int)
/-- The numbers that such a map has, rising. -/
def keysL (n : Nat) (L : Nat → Option (List Nat)) : List Nat := (List.range n).filter fun j => (L j).isSome
/-- Those met so far. -/
def Coll (L : Nat → Option (List Nat)) (left : Nat → Bool) (ss : List Nat) : Prop := ss.Nodup ∧ ∀ j, j ∈ ss ↔ ((L j).isSome = true ∧ left j = false)
section
variable {n : Nat} {L : Nat → Option (List Nat)} {left : Nat → Bool} {ss : List Nat}
theorem Coll.start (L : Nat → Option (List Nat)) : Coll L (fun j => (L j).isSome) [] := ⟨List.nodup_nil, fun j => by show j ∈ [] ↔ ((L j).isSome = true ∧ (L j).isSome = false); cases (L j).isSome <;> simp⟩
theorem Coll.step (h : Coll L left ss) {j : Nat} {xs : List Nat} (hl : left j = true) (hL : L j = some xs) : Coll L (fun i => left i && !(i == j)) (ss ++ [j]) := by
  have hnew : j ∉ ss := fun hx => by have := ((h.2 j).1 hx).2; rw [hl] at this; cases this
  refine ⟨List.nodup_append.2 ⟨h.1, by simp, fun a ha b hb => by simp at hb; subst hb; exact fun e => hnew (e ▸ ha)⟩, fun i => ?_⟩
  by_cases e : i = j
  · subst e
    simp [hL]
  · simp [h.2 i, e]
theorem Coll.few (h : Coll L left ss) (hn : ∀ j xs, L j = some xs → j < n) : ss.length ≤ n :=
  length_below n ss h.1 (fun j hj => by
    obtain ⟨xs, hx⟩ := Option.isSome_iff_exists.1 ((h.2 j).1 hj).1
    exact hn j xs hx)
theorem Coll.perm (h : Coll L left ss) (hl : ∀ j, left j = false) (hn : ∀ j xs, L j = some xs → j < n) : ss.Perm (keysL n L) := by
  refine (List.perm_ext_iff_of_nodup h.1 (List.nodup_range.filter _)).2 fun j => ?_
  rw [h.2 j, hl j]
  rw [List.mem_filter, List.mem_range]
  constructor
  · rintro ⟨h1, _⟩
    obtain ⟨xs, hx⟩ := Option.isSome_iff_exists.1 h1
    exact ⟨hn j xs hx, h1⟩
  · rintro ⟨_, h1⟩
    exact ⟨h1, rfl⟩
theorem keysL_sorted (n : Nat) (L : Nat → Option (List Nat)) : (keysL n L).Pairwise (fun a b => a < b) := List.pairwise_lt_range.filter _
theorem sorted_keys {ss ks : List Nat} (h : ss.Perm ks) (hs : ks.Pairwise (fun a b => a < b)) : ((ss.map fun j : Nat => (j : Int)).mergeSort fun x y => decide (x ≤ y)) = ks.map fun j : Nat => (j : Int) := by
  have tr : ∀ a b c : Int, decide (a ≤ b) = true → decide (b ≤ c) = true → decide (a ≤ c) = true := fun a b c h1 h2 => by simp only [decide_eq_true_eq] at *; omega
  have to : ∀ a b : Int, (decide (a ≤ b) || decide (b ≤ a)) = true := fun a b => by simp only [Bool.or_eq_true, decide_eq_true_eq]; omega
  refine List.Perm.eq_of_pairwise (le := fun a b : Int => decide (a ≤ b) = true) (fun a b _ _ h1 h2 => by simp only [decide_eq_true_eq] at h1 h2; omega) (List.pairwise_mergeSort tr to _) ?_ ((List.mergeSort_perm _ _).trans (h.map _))
  exact List.pairwise_map.2 (hs.imp fun {a b} hab => by simp only [decide_eq_true_eq]; omega)
end
section
variable {w : World} {base g cap n : Nat} {e : TypeId} {os : Array Obj} {cur : Array Value}
theorem holds_ints {zs : List Int} (hb : w.heap[g]? = some (.cells cur e (0, 0))) (ht : cur.toList.take zs.length = zs.map (Value.int .i64)) : Holds (Value.int .i64) w g 0 zs.toArray := by
  intro j hj
  have hj' : j < zs.length := by simpa using hj
  refine ⟨?_, by simp [World.frozen?, hb]⟩
  have h1 : (cur.toList.take zs.length)[j]? = (zs.map (Value.int .i64))[j]? := by rw [ht]
  rw [List.getElem?_take_of_lt hj'] at h1
  simp only [World.cell?, hb, Nat.zero_add]
  simp only [Option.isSome_none, Bool.false_eq_true, if_false]
  rw [← Array.getElem?_toList, h1]
  simp [hj']
theorem heap_sorted_ints (d : Array Int) (hb : w.heap[g]? = some (.cells cur e (0, 0))) :
    (grow (putRow (Value.int .i64) (Sort.ahead w n) g 0 d) os).heap[g]? = some (.cells (putCells (Value.int .i64) 0 d cur) e (0, 0)) := by
  have hg : g < w.heap.size := (Array.getElem?_eq_some_iff.1 hb).1
  rw [heap_grow_old _ _ (by simpa using hg)]
  simp [putRow, mapBlock, Sort.ahead, Array.getElem?_modify, hb, onCells]
theorem grown_sorted_ints (d : Array Int) : w.grownBy (grow (putRow (Value.int .i64) (Sort.ahead w n) g 0 d) os) (some g) := by
  refine ⟨rfl, rfl, rfl, by simp, fun k hk hne => ?_⟩
  rw [heap_grow_old _ _ (by simpa using hk)]
  have : g ≠ k := fun e => hne (by rw [e])
  simp [putRow, mapBlock, Sort.ahead, Array.getElem?_modify, this]
theorem take_putCells_ints (cur : Array Value) (ts : List Int) (h : ts.length ≤ cur.size) : (putCells (Value.int .i64) 0 ts.toArray cur).toList.take ts.length = ts.map (Value.int .i64) := by
  apply List.ext_getElem?
  intro j
  by_cases hj : j < ts.length
  · rw [List.getElem?_take_of_lt hj, Array.getElem?_toList]
    simp [putCells, hj, show j < cur.size by omega]
  · rw [List.getElem?_take_eq_none (by omega), List.getElem?_eq_none (by simp; omega)]
theorem own_sorted_ints {ss ts : List Int} (hl : ts.length = ss.length) (hbase : base ≤ g) (hb : w.heap[g]? = some (.cells cur e (0, 0)))
    (h1 : ss.length ≤ cap) (h2 : cap ≤ maxLen) (h3 : cur.size = cap * 1) :
    (grow (putRow (Value.int .i64) (Sort.ahead w n) g 0 ts.toArray) os).ownsRow base e 1 (.slice (some ⟨g, 0, none⟩) ss.length cap) ss.length (ts.map (Value.int .i64)) :=
  ⟨by simp [hl], .inr ⟨g, cap, _, rfl, hbase, heap_sorted_ints _ hb, h1, h2, by simp [putCells, h3], by rw [Nat.mul_one, ← hl]; exact take_putCells_ints cur ts (by omega)⟩⟩
end
section
variable {P : Program} {k t e : TypeId} {w w' : World} {b r n cnt : Nat} {L : Nat → Option (List Nat)} {left : Nat → Bool}
/-- 'len(m)'. -/
theorem wpList_len_loo {ops : Array Oper} {rest : List Oper} {o : Oper} {a : Act} {Q : Exit → Act → World → Prop} (hg : o.guard = none) (mo : Operand) (hop : o.op = Op.call { callee := Callee.builtin Builtin.len, args := #[mo], argTypes := #[t] }) (hk : P.underlying k = some (.int .i64)) (ht : P.underlying t = some (.map k e))
    (hm : a.eval mo = .map (some b)) (h : Loo P k w b n L)
    (hK : ∀ c : Nat, c ≤ n → wpList P ops Q rest (a.put o.dst (.int .i64 (c : Int))) w) :
    wpList P ops Q (o :: rest) a w := by
  obtain ⟨D, h1, _, _⟩ := h.tight (Maps.int_keyed hk)
  exact wpList_len_own w hg mo t hop k e ht secR b n D hm h1 (hK _ h1.size_le)
theorem row_ne_ran {base size m : Nat} {et : TypeId} {v : Value} {xs : List Value} (h : w.ownsRow base et size v m xs) (hr : Ran P k w b r n L left cnt) : some r ≠ v.ownBlock := by
  obtain ⟨_, _, _, hr, _⟩ := hr
  obtain ⟨_, _, _, _, _, _, _, _, _, hit, _⟩ := hr
  rcases h.2 with ⟨rfl, _⟩ | ⟨g, cap, cur, rfl, _, hb, _⟩
  · simp [Value.ownBlock]
  · intro e1
    have : r = g := by simpa [Value.ownBlock] using e1
    subst this
    rw [hit] at hb
    cases hb
theorem row_below {base size m : Nat} {et : TypeId} {v : Value} {xs : List Value} (h : w.ownsRow base et size v m xs) {i : Nat} (hi : i < base) : some i ≠ v.ownBlock := fun e1 => by
  have := (h.lt i e1.symm).1
  omega
theorem Ran.grown (h : Ran P k w b r n L left cnt) {row : Option Nat} (hg : w.grownBy w' row) (hb : some b ≠ row) (hr : some r ≠ row) : Ran P k w' b r n L left cnt :=
  h.far (hg.block b h.loo.blk hb) (hg.block r h.lt hr)
end
end Go.Proofs.Ytggidgfmkidkjaa

/-! ## DiskF: The contract of disk's Loose: the sectors that are loose, rising.   Conditions: the disk is known whole. -/
namespace Go.Proofs.Ytggidgfmkidkjaa
open Go.RowKit Go.Sort
set_option linter.unusedVariables false

set_option maxRecDepth 20000 in
set_option maxHeartbeats 400000 in
theorem dloose_nil (w : World) :
    Calls Try.prog 15 #[.pointer none] w fun e w' => e = .returned (.slice none 0 0) ∧ w = w' := by
  go_enter Try.func15, Try.ntmps15
  go_wp2
  go_ret
  exact ⟨rfl, rfl⟩

theorem Try.infoInt : (Try.prog.info? 3).map (fun i => (i.zero, i.size, i.bytes)) = some (some (.int .i64 0), 1, 8) := by kernel_rfl
/-- What Loose leaves: numbers in memory of its own. -/
def NumsPost (w : World) (ks : List Nat) (nn : Bool) (e : Ending) (w' : World) : Prop :=
  ∃ v, e = .returned v ∧ w'.ownsRow w.heap.size 3 1 v ks.length (ks.map nv) ∧ Below w.heap.size w w' ∧ (v = .slice none 0 0 → nn = true)
/-- What holds while they are collected. -/
def LooseAt (w : World) (gM r n : Nat) (L : Nat → Option (List Nat)) (v : Value) (wr : World) : Prop :=
  ∃ left cnt ss, Ran Try.prog 3 wr gM r n L left cnt ∧ wr.ownsRow w.heap.size 3 1 v ss.length (ss.map nv) ∧ v ≠ .slice none 0 0 ∧ Coll L left ss ∧ Below w.heap.size w wr

set_option maxRecDepth 20000 in
set_option maxHeartbeats 1000000 in
theorem dloose_any (gD gS gM n : Nat) (S : Nat → List Nat) (L : Nat → Option (List Nat)) (t : Tr) (w : World) (h : Dsk w gD gS gM n S L t) :
    Calls Try.prog 15 #[.pointer (some ⟨gD, 0, none⟩)] w (NumsPost w (keysL n L) false) := by
  have HD := Lib.hid h
  have HN := Lib.hid (show ∀ j xs, L j = some xs → j < n from fun j xs hj => (h.loose_ hj).2.2)
  obtain ⟨i0, hi, hz0, hz1, hz2⟩ := info_parts Try.infoInt
  have c1 : w.cell? ⟨gD, 1, none⟩ = some (.map (some gM)) := h.cell 1
  have hfew := h.few
  clear h
  go_enter Try.func15, Try.ntmps15
  go_wp2_with (first
    | (refine wpList_len_loo rfl (.tmp 10) rfl Try.underlying3 Try.underlying42 rfl HD.out.2.2.2.2.1 ?_; intro c hc)
    | (refine wpList_make_own _ rfl _ _ 38 rfl w.heap.size 3 i0 (.int .i64 0) 1 Try.underlying38 hi hz0 hz1 _ _ _ c rfl rfl rfl (by rw [hz2]; omega) (by unfold maxLen; omega) (Nat.le_refl _) ?_; intro w1 hrow1 hg1; have HROW1 := Lib.hid hrow1; have HG1 := Lib.hid hg1; clear hrow1 hg1; have c1' : w1.cell? ⟨gD, 1, none⟩ = some (.map (some gM)) := by { rw [World.cell?_of_block (HG1.out.block _ HD.out.lt.1 (by simp))]; exact c1 })
    | (refine wpList_range_loo rfl (.tmp 16) rfl Try.underlying3 Try.underlying42 rfl (HD.out.2.2.2.2.1.far (HG1.out.block _ HD.out.lt.2.2 (by simp))) ?_; intro w2 cnt2 hcn HR2 HB2 HS2))
  go_frame
  clear c1 c1' hcn
  have HST := Lib.hid (show LooseAt w gM w1.heap.size n L (.slice (some ⟨w.heap.size, 0, none⟩) 0 c) w2 from ⟨_, cnt2, [], HR2.out, HROW1.out.kept (row := none) ⟨HB2.out.os, HB2.out.tape, HB2.out.output, HB2.out.size, fun i hi _ => HB2.out.block i hi⟩ (Or.inr (by simp [Value.ownBlock])), by simp, Coll.start L,
    (show Below w.heap.size w w1 from ⟨HG1.out.os, HG1.out.tape, HG1.out.output, HG1.out.size, fun i hi => HG1.out.block i hi (by simp)⟩).trans (HB2.out.mono HG1.out.size)⟩)
  clear hc
  go_loopw [3] (fun v wr => LooseAt w gM w1.heap.size n L v wr) (fun _ wr => wr.rangeLeft gM w1.heap.size)
  case atStart => exact HST.out
  case round =>
    obtain ⟨left, cnt, ss, hr, hrow, hnn, hC, hnx⟩ := hrel
    have HRA := Lib.hid hr
    have HROW := Lib.hid hrow
    have HNN := Lib.hid hnn
    have HC := Lib.hid hC
    have HNX := Lib.hid hnx
    clear hr hrow hnn hC hnx
    go_wp2_with (refine wpList_next_loo rfl (.tmp 17) rfl Try.underlying3 rfl HRA.out ?_ ?_)
    · intro hl0
      rcases HROW.out.2 with ⟨hnil, _⟩ | ⟨g, cap, cur, rfl, hbase, hb, h1, h2, h3, h4⟩
      · exact absurd hnil HNN.out
      have hmm : (ss.map fun j : Nat => (j : Int)).map (Value.int .i64) = ss.map nv := by rw [List.map_map]; rfl
      have hH : Holds (Value.int .i64) wr g 0 (ss.map fun j : Nat => (j : Int)).toArray := holds_ints hb (by rw [hmm, List.length_map]; simpa using h4)
      have hgl : g < wr.heap.size := (Array.getElem?_eq_some_iff.1 hb).1
      have hfew2 := HC.out.few HN.out
      have hc := Try.slices_Sort_int g 0 cap (ss.map fun j : Nat => (j : Int)) wr hH hgl (by rw [List.length_map]; omega)
      have hpm := HC.out.perm hl0 HN.out
      rw [sorted_keys hpm (keysL_sorted n L), List.length_map] at hc
      have hks : (keysL n L).map nv = ((keysL n L).map fun j : Nat => (j : Int)).map (Value.int .i64) := by rw [List.map_map]; rfl
      have hlen : (keysL n L).length = ss.length := hpm.length_eq.symm
      have HO := Lib.hid (fun (nn : Nat) (os : Array Obj) => own_sorted_ints (base := w.heap.size) (n := nn) (os := os) (ss := ss.map fun j : Nat => (j : Int)) (ts := (keysL n L).map fun j : Nat => (j : Int)) (by simp [hlen]) hbase hb (by simpa using h1) h2 h3)
      have HCC := Lib.hid hc
      have HKS := Lib.hid hks
      have HLE := Lib.hid hlen
      have HBA := Lib.hid hbase
      clear hmm hH hgl hfew2 hc hpm hks hlen hb h1 h2 h3 h4 hbase
      go_wp2_with fail
      refine HCC.out.mono ?_
      rintro e w' ⟨rfl, nn, os, rfl⟩
      go_wp2_with fail
      go_ret
      have h9 := HO.out nn os
      rw [List.length_map, ← HKS.out] at h9
      exact ⟨_, rfl, by rw [HLE.out]; exact h9, HNX.out.grown (grown_sorted_ints _) HNX.out.size (fun j hj => by cases hj; exact HBA.out), fun h => by cases h⟩
    · intro j xs w3 cnt3 hj hlj hL HR3 hlt HO3 hen
      have HROW3 := Lib.hid (HROW.out.kept HO3.out.1 (Or.inr (row_ne_ran HROW.out HRA.out).symm))
      have HC3 := Lib.hid (HC.out.step hlj hL)
      have HLT := Lib.hid hlt
      have hcw := HC3.out.few HN.out
      rw [List.length_append] at hcw
      have HCW := Lib.hid hcw
      clear hlj hL hlt hcw
      have hbz : w.heap.size ≤ w3.heap.size := by rw [HO3.out.2]; exact HNX.out.size
      have HBZ := Lib.hid hbz
      clear hbz
      have HONE := Lib.hid (show ∀ u ∈ [nv j], u.oneCell' = true from fun u hu => by rw [List.mem_singleton.1 hu]; rfl)
      have HQ1 := Lib.hid (show ss.length + 1 ≤ maxLen from by have := HCW.out; simp at this; unfold maxLen; omega)
      have HQ2 := Lib.hid (show (ss.length + 1) * 8 ≤ 140737488355328 from by have := HCW.out; simp at this; omega)
      have HQ3 := Lib.hid (show w.heap.size ≤ (w3.alloc (.cells #[nv j] 3)).heap.size from by have := HBZ.out; simp; omega)
      go_wp2_with (refine wpList_append_own _ rfl (.tmp 22) (.tmp 24) 38 rfl w.heap.size 3 i0 (.int .i64 0) 1 8 Try.underlying38 hi hz0 hz1 hz2 rfl (by decide) _ _ _ rfl (HROW3.out.alloc _) ⟨w3.heap.size, 0, none⟩ 1 1 [nv j] rfl rfl (cell_one_new _ _ _) HONE.out HQ1.out HQ2.out HQ3.out ?_; intro v' w4 hown4 hg4 hnil4; have HOWN4 := Lib.hid hown4; have HG4 := Lib.hid hg4; have HNIL4 := Lib.hid hnil4; clear hown4 hg4 hnil4)
      have HR4 := Lib.hid ((HR3.out.grown (World.grownBy_alloc w3 (.cells #[nv j] 3) none) (by simp) (by simp)).grown HG4.out (row_below HROW3.out HD.out.lt.2.2) (row_ne_ran HROW3.out HR3.out))
      have HB4 := Lib.hid (((HNX.out.grown HO3.out.1 HNX.out.size (fun j hj => by cases hj; exact HG1.out.size)).alloc HBZ.out (.cells #[nv j] 3)).grown HG4.out (by have := HBZ.out; simp; omega) (fun j hj => (HROW3.out.lt j hj).1))
      go_roundw
      case rel =>
        refine ⟨_, cnt3, ss ++ [j], HR4.out, ?_, fun hv' => ?_, HC3.out, HB4.out⟩
        · have := HOWN4.out
          simpa using this
        · have := (HNIL4.out.1 hv').2
          omega
      case measure =>
        rw [HR4.out.left_eq, HRA.out.left_eq]
        exact HLT.out
end Go.Proofs.Ytggidgfmkidkjaa

/-! ## DiskG: The contract of disk's kept: of the loose sectors those whose bit is set.   Conditions: the disk is known whole. -/
namespace Go.Proofs.Ytggidgfmkidkjaa
open Go.RowKit
set_option linter.unusedVariables false

/-- Of the first m numbers those whose bit is set. -/
def keptN (ks : List Nat) (K : Nat) : Nat → List Nat
  | 0 => []
  | m + 1 => if K.testBit m = true then keptN ks K m ++ [ks.getD m 0] else keptN ks K m
def keptL (ks : List Nat) (K : Nat) : List Nat := keptN ks K ks.length
theorem keptN_length (ks : List Nat) (K m : Nat) : (keptN ks K m).length ≤ m := by
  induction m with
  | zero => exact Nat.le_refl _
  | succ m ih =>
    unfold keptN
    split
    · rw [List.length_append, List.length_singleton]; omega
    · omega
theorem keptN_mem (ks : List Nat) (K m : Nat) (hm : m ≤ ks.length) : ∀ j ∈ keptN ks K m, j ∈ ks := by
  induction m with
  | zero => intro j hj; cases hj
  | succ m ih =>
    intro j hj
    unfold keptN at hj
    split at hj
    · rcases List.mem_append.1 hj with h | h
      · exact ih (by omega) j h
      · rw [List.mem_singleton.1 h]
        have hm' : m < ks.length := by omega
        simp [hm']
    · exact ih (by omega) j hj
theorem keysL_mem {n : Nat} {L : Nat → Option (List Nat)} {j : Nat} (h : j ∈ keysL n L) : j < n ∧ (L j).isSome = true := by
  have h1 := List.mem_filter.1 h
  exact ⟨List.mem_range.1 h1.1, h1.2⟩
theorem keysL_length (n : Nat) (L : Nat → Option (List Nat)) : (keysL n L).length ≤ n := by
  have := List.length_filter_le (fun j => (L j).isSome) (List.range n)
  simpa [keysL] using this

/-- What is owned from one block on is owned from an earlier one on. -/
theorem row_more {w : World} {base base' : Nat} {e : TypeId} {size n : Nat} {v : Value} {xs : List Value} (h : w.ownsRow base e size v n xs) (hb : base' ≤ base) : w.ownsRow base' e size v n xs := by
  refine ⟨h.1, ?_⟩
  rcases h.2 with ⟨h1, h2⟩ | ⟨g, cap, cur, h1, h2, h3⟩
  · exact .inl ⟨h1, h2⟩
  · exact .inr ⟨g, cap, cur, h1, Nat.le_trans hb h2, h3⟩

/-- What holds while they are picked out. -/
def KeptAt (w1 : World) (ks : List Nat) (K k : Nat) (v : Value) (wr : World) : Prop :=
  wr.ownsRow w1.heap.size 3 1 v (keptN ks K k).length ((keptN ks K k).map nv) ∧ Below w1.heap.size w1 wr

end Go.Proofs.Ytggidgfmkidkjaa

/-! ## DiskH: The contract of disk's Crash: of the loose sectors those whose bit is set are sure, the last one of them in part; nothing is loose, and there is no trouble.   Conditions: the disk is known whole. -/
namespace Go.Proofs.Ytggidgfmkidkjaa
open Go.RowKit
set_option linter.unusedVariables false

/-- The sure sectors behind the first m of those that are kept. -/
def crashN (S : Nat → List Nat) (L : Nat → Option (List Nat)) (ks : List Nat) (tn : Nat) : Nat → Nat → List Nat
  | 0 => S
  | m + 1 => upd (crashN S L ks tn m) (ks.getD m 0) (over (crashN S L ks tn m (ks.getD m 0)) 0 (((L (ks.getD m 0)).getD zer).take (if m + 1 = ks.length then tn else 64)))
def crashL (S : Nat → List Nat) (L : Nat → Option (List Nat)) (ks : List Nat) (tn : Nat) : Nat → List Nat := crashN S L ks tn ks.length
/-- As near to that as 0 to 64 allow. -/
def Near64 (k : Int) (n : Nat) : Prop := (k ≤ 0 ∧ n = 0) ∨ (64 ≤ k ∧ n = 64) ∨ (0 ≤ k ∧ k ≤ 64 ∧ k = n)

section
variable {w w' : World} {gD gS gM n : Nat} {S : Nat → List Nat} {L : Nat → Option (List Nat)} {t : Tr}
theorem Dsk.get (h : Dsk w gD gS gM n S L t) {f : Nat} (hf : f < n) {xs : List Nat} (hx : L f = some xs) :
    (Instr.lookup 42 (.map (some gM)) (.int .i64 (f : Int)) false).run Try.prog w = .ok (secV xs) w := by
  have := h.2.2.2.2.1.run_get Try.underlying3 Try.underlying42 (Try.zeroSecV w) f (by have := h.few; omega)
  rw [hx] at this
  exact this
theorem Dsk.sure_ (h : Dsk w gD gS gM n S L t) {S' : Nat → List Nat} (hs : Sec w' gS n S') (ho : Only gS w w') : Dsk w' gD gS gM n S' L t :=
  ⟨ho.blk h.1 h.ne.1, h.2.1, h.2.2.1, hs, h.2.2.2.2.1.far (ho.1.block _ h.lt.2.2 (fun e => h.ne.2.2 (by injection e with e; exact e.symm))), h.2.2.2.2.2⟩
end
theorem slice_to (g o n : Nat) (h : n ≤ 64) (w : World) : (Instr.sliceAt 53 (.pointer (some ⟨g, o, none⟩)) none (some (.int .i64 (n : Int))) none).run Try.prog w = .ok (.slice (some ⟨g, o, none⟩) n 64) w := by
  have hu : Try.prog.underlying 53 = some (.array 64 5) := Try.underlying53
  have hl : Try.prog.arrayLen 53 = 64 := by simp [Program.arrayLen, hu]
  have he : Try.prog.elem 53 = 5 := by simp [Program.elem, hu]
  rw [run_sliceAt_array_h w 53 ⟨g, o, none⟩ (by rw [hl, he]; exact hu) .i64 _ (by omega) (by rw [hl]; omega), he, hl]
  have hs := Try.size8
  cases hq : Try.prog.info? 5 with
  | none => simp [hq] at hs
  | some i =>
    have hi : i.size = 1 := by simpa [hq] using hs
    simp [sizeOf, typeInfo, hq, hi, slicedAt]
    unfold Addr.add
    split <;> simp_all

/-- What holds while they are made sure. -/
def CrashAt (w1 : World) (gD gS gM n : Nat) (S : Nat → List Nat) (L : Nat → Option (List Nat)) (t : Tr) (ks : List Nat) (tn k : Nat) (wr : World) : Prop :=
  Dsk wr gD gS gM n (crashN S L ks tn k) L t ∧ Turns (dk gD gS gM) w1 wr
/-- What Crash leaves. -/
def DCrashPost (w : World) (gD gS gM n : Nat) (S : Nat → List Nat) (L : Nat → Option (List Nat)) (ks : List Nat) (tn : Nat) (e : Ending) (w' : World) : Prop :=
  e = .returned (.tuple #[]) ∧ Dsk w' gD gS gM n (crashL S L ks tn) (fun _ => none) Tr.none_ ∧ Turns (dk gD gS gM) w w'

end Go.Proofs.Ytggidgfmkidkjaa

/-! ## GenK: What several layers stand on, with what a crash leaves: a disk of which nothing is loose has no loose sectors.   Conditions: none. -/
namespace Go.Proofs.Ytggidgfmkidkjaa
open Go.RowKit
theorem keysL_none (n : Nat) : keysL n (fun _ => none) = [] := by
  refine List.eq_nil_iff_forall_not_mem.2 fun j hj => ?_
  have := (keysL_mem hj).2
  simp at this
end Go.Proofs.Ytggidgfmkidkjaa

/-! ## SloCr: What a crash leaves of two slots of which one was being saved, if no sector is torn: what was saved last, or what was being saved.   Conditions: none beside those that each line bears. -/
namespace Go.Proofs.Ytggidgfmkidkjaa
open Go.RowKit
set_option linter.unusedVariables false

theorem over_none_ (xs : List Nat) : over xs 0 [] = xs := by simp [over]
/-- Behind a crash that tears no sector each one is as it was sure, or as it was written. -/
theorem crash_or {S : Nat → List Nat} {L : Nat → Option (List Nat)} {n K tn : Nat} (hS : ∀ f, f < n → (S f).length = 64) (hL : ∀ f y, L f = some y → y.length = 64) (ht : tn = 0 ∨ tn = 64) (f : Nat) :
    crashL S L (keptL (keysL n L) K) tn f = S f ∨ ∃ y, L f = some y ∧ crashL S L (keptL (keysL n L) K) tn f = y := by
  have hmem : ∀ j ∈ keptL (keysL n L) K, j < n ∧ (L j).isSome = true := fun j hj => keysL_mem (keptN_mem _ _ _ (Nat.le_refl _) j hj)
  obtain ⟨ks, hks⟩ : ∃ ks, ks = keptL (keysL n L) K := ⟨_, rfl⟩
  rw [← hks] at hmem ⊢
  have h : ∀ m, m ≤ ks.length → ∀ f, crashN S L ks tn m f = S f ∨ ∃ y, L f = some y ∧ crashN S L ks tn m f = y := by
    intro m
    induction m with
    | zero => intro _ f; exact .inl rfl
    | succ m ih =>
      intro hm f
      have ih := ih (by omega)
      show upd (crashN S L ks tn m) (ks.getD m 0) (over (crashN S L ks tn m (ks.getD m 0)) 0 (((L (ks.getD m 0)).getD zer).take (if m + 1 = ks.length then tn else 64))) f = S f ∨
        ∃ y, L f = some y ∧ upd (crashN S L ks tn m) (ks.getD m 0) (over (crashN S L ks tn m (ks.getD m 0)) 0 (((L (ks.getD m 0)).getD zer).take (if m + 1 = ks.length then tn else 64))) f = y
      by_cases e : f = ks.getD m 0
      · subst e
        rw [upd_same]
        have hk : ks.getD m 0 ∈ ks := by
          rw [List.getD_eq_getElem?_getD, List.getElem?_eq_getElem (show m < ks.length by omega)]
          exact List.getElem_mem _
        obtain ⟨hk1, hk2⟩ := hmem _ hk
        obtain ⟨y, hy⟩ := Option.isSome_iff_exists.1 hk2
        have hy64 := hL _ y hy
        have hc : (crashN S L ks tn m (ks.getD m 0)).length = 64 := by
          rcases ih (ks.getD m 0) with h | ⟨z, h1, h2⟩
          · rw [h]; exact hS _ hk1
          · rw [h2]; exact hL _ z h1
        have hT : (if m + 1 = ks.length then tn else 64) = 0 ∨ (if m + 1 = ks.length then tn else 64) = 64 := by
          split
          · exact ht
          · exact .inr rfl
        rcases hT with hT | hT
        · rw [hT, List.take_zero, over_none_]
          exact ih _
        · rw [hT, hy]
          refine .inr ⟨y, rfl, ?_⟩
          show over _ 0 (y.take 64) = y
          rw [List.take_of_length_le (by omega), over_all _ _ (by omega)]
      · rw [upd_other _ _ _ e]
        exact ih f
  exact h ks.length (Nat.le_refl _) f

/-- What the slots say: the gen and the bytes that were saved last. -/
def SInv (S : Nat → List Nat) (g : Nat) (now : List Nat) : Prop :=
  (g = 0 ∧ now = [] ∧ S 64 = zer ∧ S 80 = zer) ∨
  (0 < g ∧ g < 4294967295 ∧ now.length ≤ 960 ∧ S (64 + 16 * (g % 2)) = hedL g now ∧ (sloA S (g % 2)).take now.length = now ∧ sloG S (1 - g % 2) < g)
theorem SInv.start : SInv (fun _ => zer) 0 [] := .inl ⟨rfl, rfl, rfl, rfl⟩
theorem sloA_congr {F F' : Nat → List Nat} {w : Nat} (h : ∀ f, 65 + 16 * w ≤ f → f < 80 + 16 * w → F f = F' f) : sloA F w = sloA F' w := by
  unfold sloA
  congr 1
  refine List.map_congr_left fun j hj => ?_
  have := List.mem_range.1 hj
  exact h _ (by omega) (by omega)
/-- The slot of g is as it was, and the other one's head, too. -/
theorem SInv.load {S F : Nat → List Nat} {g : Nat} {now : List Nat} (h : SInv S g now) (h1 : ∀ f, 64 + 16 * (g % 2) ≤ f → f < 80 + 16 * (g % 2) → F f = S f) (h2 : F (64 + 16 * (1 - g % 2)) = S (64 + 16 * (1 - g % 2))) : loadR F = (g, now) := by
  rcases h with ⟨rfl, rfl, z0, z1⟩ | ⟨hg, hg2, hn, hh, ha, ho⟩
  · refine load_none (zer_slot ?_) (zer_slot ?_)
    · exact (h1 64 (by omega) (by omega)).trans z0
    · exact h2.trans z1
  · refine load_of (whole_of (by omega) rfl hn ((h1 _ (by omega) (by omega)).trans hh) ?_) (fun _ => ?_)
    · rw [sloA_congr (F' := S) (fun f a1 a2 => h1 f (by omega) (by omega))]
      exact ha
    · unfold sloG at ho ⊢
      rw [h2]
      exact ho
/-- The next gen's slot is whole, and the other one is as it was. -/
theorem SInv.next {S F : Nat → List Nat} {g : Nat} {now x : List Nat} (h : SInv S g now) (hx : x.length ≤ 960) (hg : g + 1 < 4294967295) (h1 : F (64 + 16 * ((g + 1) % 2)) = hedL (g + 1) x) (h2 : (sloA F ((g + 1) % 2)).take x.length = x)
    (h3 : F (64 + 16 * (g % 2)) = S (64 + 16 * (g % 2))) : SInv F (g + 1) x := by
  refine .inr ⟨by omega, hg, hx, h1, h2, ?_⟩
  have e : 1 - (g + 1) % 2 = g % 2 := by omega
  rw [e]
  unfold sloG
  rw [h3]
  rcases h with ⟨rfl, _, z0, _⟩ | ⟨_, hg2, _, hh, _⟩
  · rw [show (64 + 16 * (0 % 2)) = 64 from rfl, z0]
    decide
  · rw [hh, hedL_gen (by omega)]
    omega
theorem SInv.self {S : Nat → List Nat} {g : Nat} {now : List Nat} (h : SInv S g now) : loadR S = (g, now) := h.load (fun _ _ _ => rfl) rfl
theorem SInv.saved {S : Nat → List Nat} {g : Nat} {now x : List Nat} (h : SInv S g now) (hx : x.length ≤ 960) (hg : g + 1 < 4294967295) : SInv (savL S (g + 1) x) (g + 1) x := by
  refine h.next hx hg (upd_same _ _ _) ?_ (sav_other hx (by omega))
  refine flat_take _ _ x (nsec x) 15 (fun j hj => ?_) (nsec_le hx) (by unfold nsec; omega)
  unfold savL
  rw [upd_other _ _ _ (by omega)]
  exact datL_at hj
/-- What is loose of a saving's bytes when k sectors are written. -/
def looL (L : Nat → Option (List Nat)) (g : Nat) (b : List Nat) (k : Nat) : Nat → Option (List Nat) := fun f => if 65 + 16 * (g % 2) ≤ f ∧ f < 65 + 16 * (g % 2) + k then some (chk b (f - (65 + 16 * (g % 2)))) else L f
theorem looL_zero (L : Nat → Option (List Nat)) (g : Nat) (b : List Nat) : looL L g b 0 = L := by
  funext f
  unfold looL
  rw [if_neg (by omega)]
theorem looL_step (L : Nat → Option (List Nat)) (g : Nat) (b : List Nat) (k : Nat) : upd (looL L g b k) (65 + 16 * (g % 2) + k) (some (chk b k)) = looL L g b (k + 1) := by
  funext f
  unfold upd looL
  by_cases e : f = 65 + 16 * (g % 2) + k
  · subst e
    rw [if_pos rfl, if_pos ⟨by omega, by omega⟩]
    congr 2
    omega
  · rw [if_neg e]
    by_cases c : 65 + 16 * (g % 2) ≤ f ∧ f < 65 + 16 * (g % 2) + k
    · rw [if_pos c, if_pos ⟨c.1, by omega⟩]
    · rw [if_neg c, if_neg (by omega)]
theorem looL_last (S : Nat → List Nat) (L : Nat → Option (List Nat)) (g : Nat) (b : List Nat) (k : Nat) : last S (looL L g b k) = datL (last S L) g b k := by
  funext f
  unfold last looL datL
  by_cases c : 65 + 16 * (g % 2) ≤ f ∧ f < 65 + 16 * (g % 2) + k
  · rw [if_pos c, if_pos c]; rfl
  · rw [if_neg c, if_neg c]
theorem looL_long {L : Nat → Option (List Nat)} {g k : Nat} {b : List Nat} (hL : ∀ f y, L f = some y → y.length = 64) : ∀ f y, looL L g b k f = some y → y.length = 64 := by
  intro f y h
  unfold looL at h
  split at h
  · injection h with h
    rw [← h]
    exact chk_length _ _
  · exact hL f y h
/-- The power went, or the disk failed, while the bytes were written: what was saved last is there. -/
theorem cut_bytes {S : Nat → List Nat} {g : Nat} {now x : List Nat} (h : SInv S g now) (hx : x.length ≤ 960) {k K tn : Nat} (hk : k ≤ nsec x) (hS : ∀ f, f < 192 → (S f).length = 64) (ht : tn = 0 ∨ tn = 64) :
    loadR (crashL S (looL (fun _ => none) (g + 1) x k) (keptL (keysL 192 (looL (fun _ => none) (g + 1) x k)) K) tn) = (g, now) := by
  have hn := nsec_le hx
  have hc := fun f => crash_or (K := K) (n := 192) hS (looL_long (L := fun _ => none) (g := g + 1) (k := k) (b := x) (fun f y h => by cases h)) ht f
  have hno : ∀ f, (f < 65 + 16 * ((g + 1) % 2) ∨ 65 + 16 * ((g + 1) % 2) + k ≤ f) → looL (fun _ => none) (g + 1) x k f = none := by
    intro f hf
    unfold looL
    rw [if_neg (by omega)]
  refine h.load (fun f a1 a2 => ?_) ?_
  · rcases hc f with hc | ⟨y, hy, _⟩
    · exact hc
    · rw [hno f (by omega)] at hy
      cases hy
  · rcases hc (64 + 16 * (1 - g % 2)) with hc | ⟨y, hy, _⟩
    · exact hc
    · rw [hno _ (by omega)] at hy
      cases hy
/-- .. behind the bytes, ahead of the head. -/
theorem cut_head {S : Nat → List Nat} {g : Nat} {now x : List Nat} (h : SInv S g now) (hx : x.length ≤ 960) {K tn : Nat} (hS : ∀ f, f < 192 → (S f).length = 64) (ht : tn = 0 ∨ tn = 64) :
    loadR (crashL (datL S (g + 1) x (nsec x)) (fun _ => none) (keptL (keysL 192 (fun _ => none)) K) tn) = (g, now) := by
  have hn := nsec_le hx
  have hl : ∀ f, f < 192 → (datL S (g + 1) x (nsec x) f).length = 64 := by
    intro f hf
    unfold datL
    split
    · exact chk_length _ _
    · exact hS f hf
  have hc := fun f => crash_or (K := K) (n := 192) (L := fun _ => none) hl (fun f y h => by cases h) ht f
  have hc' : ∀ f, crashL (datL S (g + 1) x (nsec x)) (fun _ => none) (keptL (keysL 192 (fun _ => none)) K) tn f = datL S (g + 1) x (nsec x) f := by
    intro f
    rcases hc f with hc | ⟨y, hy, _⟩
    · exact hc
    · cases hy
  refine h.load (fun f a1 a2 => ?_) ?_
  · rw [hc' f, datL_other (by omega)]
  · rw [hc', datL_other (by omega)]
/-- .. while the head is loose: what was saved last, or what was being saved. -/
theorem cut_last {S : Nat → List Nat} {g : Nat} {now x : List Nat} (h : SInv S g now) (hx : x.length ≤ 960) (hg : g + 1 < 4294967295) {K tn : Nat} (hS : ∀ f, f < 192 → (S f).length = 64) (ht : tn = 0 ∨ tn = 64) :
    loadR (crashL (datL S (g + 1) x (nsec x)) (upd (fun _ => none) (64 + 16 * ((g + 1) % 2)) (some (hedL (g + 1) x))) (keptL (keysL 192 (upd (fun _ => none) (64 + 16 * ((g + 1) % 2)) (some (hedL (g + 1) x)))) K) tn) = (g, now) ∨
    loadR (crashL (datL S (g + 1) x (nsec x)) (upd (fun _ => none) (64 + 16 * ((g + 1) % 2)) (some (hedL (g + 1) x))) (keptL (keysL 192 (upd (fun _ => none) (64 + 16 * ((g + 1) % 2)) (some (hedL (g + 1) x)))) K) tn) = (g + 1, x) := by
  have hn := nsec_le hx
  have hl : ∀ f, f < 192 → (datL S (g + 1) x (nsec x) f).length = 64 := by
    intro f hf
    unfold datL
    split
    · exact chk_length _ _
    · exact hS f hf
  have hL : ∀ f y, (upd (fun _ => none) (64 + 16 * ((g + 1) % 2)) (some (hedL (g + 1) x)) : Nat → Option (List Nat)) f = some y → y.length = 64 := by
    intro f y hy
    unfold upd at hy
    split at hy
    · injection hy with hy
      rw [← hy]
      exact hedL_length _ _
    · cases hy
  have hc := fun f => crash_or (K := K) (n := 192) hl hL ht f
  generalize crashL (datL S (g + 1) x (nsec x)) (upd (fun _ => none) (64 + 16 * ((g + 1) % 2)) (some (hedL (g + 1) x))) (keptL (keysL 192 (upd (fun _ => none) (64 + 16 * ((g + 1) % 2)) (some (hedL (g + 1) x)))) K) tn = F at hc ⊢
  have hoth : ∀ f, f ≠ 64 + 16 * ((g + 1) % 2) → F f = datL S (g + 1) x (nsec x) f := by
    intro f hf
    rcases hc f with hc | ⟨y, hy, _⟩
    · exact hc
    · rw [upd_other _ _ _ hf] at hy
      cases hy
  have hown : ∀ f, 64 + 16 * (g % 2) ≤ f → f < 80 + 16 * (g % 2) → F f = S f := by
    intro f a1 a2
    rw [hoth f (by omega), datL_other (by omega)]
  rcases hc (64 + 16 * ((g + 1) % 2)) with hh | ⟨y, hy, hh⟩
  · left
    refine h.load hown ?_
    rw [show 1 - g % 2 = (g + 1) % 2 by omega, hh, datL_other (by omega)]
  · right
    rw [upd_same] at hy
    injection hy with hy
    rw [← hy] at hh
    refine (h.next hx hg hh ?_ (hown _ (by omega) (by omega))).self
    refine flat_take _ _ x (nsec x) 15 (fun j hj => ?_) hn (by unfold nsec; omega)
    rw [hoth _ (by omega)]
    exact datL_at hj
end Go.Proofs.Ytggidgfmkidkjaa

/-! ## JouInv: What a journal's disk has, sure and loose, while calls fail: the base and the records that are sure, the records and the bases that may come; what each call turns; and what is found behind a crash that tears no sector. Nothing of the program is named here.   Conditions: none beside those that each line bears. -/
namespace Go.Proofs.Ytggidgfmkidkjaa
open Go.RowKit
set_option linter.unusedVariables false

/-- What a sector may be behind a crash. -/
def Val (S : Nat → List Nat) (L : Nat → Option (List Nat)) (f : Nat) (y : List Nat) : Prop := y = S f ∨ L f = some y
theorem Val.last_ (S : Nat → List Nat) (L : Nat → Option (List Nat)) (f : Nat) : Val S L f (last S L f) := by
  unfold Val last
  cases h : L f with
  | none => exact .inl rfl
  | some y => exact .inr rfl
theorem Val.sure {S : Nat → List Nat} {f : Nat} {y : List Nat} (h : Val S (fun _ => none) f y) : y = S f := by
  rcases h with h | h
  · exact h
  · cases h

/-- Gen, base, records; the records and the bases that calls left behind that failed. -/
structure JInv (g : Nat) (nb : List Nat) (rs xs bs : List (List Nat)) (S : Nat → List Nat) (L : Nat → Option (List Nat)) : Prop where
  few : rs.length ≤ 64
  short : ∀ j, j < rs.length → (rs.getD j []).length ≤ 50
  xshort : ∀ x ∈ xs, x.length ≤ 50
  bshort : ∀ b ∈ bs, b.length ≤ 960
  logd : ∀ f, f < rs.length → S f = secL g f (rs.getD f []) ∧ L f = none
  next : ∀ y, Val S L rs.length y → rs.length < 64 → ¬ IsRec y g rs.length ∨ ∃ x ∈ xs, y = secL g rs.length x
  behind : ∀ f y, rs.length < f → f < 64 → Val S L f y → ¬ IsRec y g f
  fresh : ∀ f y g', f < 64 → Val S L f y → g < g' → g' < 4294967296 → ¬ IsRec y g' f
  own : (g = 0 ∧ nb = [] ∧ S 64 = zer ∧ L 64 = none) ∨ (0 < g ∧ nb.length ≤ 960 ∧ S (64 + 16 * (g % 2)) = hedL g nb ∧ (sloA S (g % 2)).take nb.length = nb ∧ ∀ f, 64 + 16 * (g % 2) ≤ f → f < 80 + 16 * (g % 2) → L f = none)
  other : ∀ y, Val S L (64 + 16 * ((g + 1) % 2)) y → (y = zer ∨ le (win y 0 4) < g) ∨ ∃ b ∈ bs, y = hedL (g + 1) b

section
variable {g : Nat} {nb : List Nat} {rs xs bs : List (List Nat)} {S : Nat → List Nat} {L : Nat → Option (List Nat)}
theorem JInv.start : JInv 0 [] [] [] [] (fun _ => zer) (fun _ => none) where
  few := by simp
  short := fun j hj => absurd hj (by simp)
  xshort := fun x hx => by cases hx
  bshort := fun x hx => by cases hx
  logd := fun j hj => absurd hj (by simp)
  next := fun y hy _ => by rw [hy.sure]; exact .inl (zer_none _ _)
  behind := fun f y _ _ hy => by rw [hy.sure]; exact zer_none _ _
  fresh := fun f y g' _ hy _ _ => by rw [hy.sure]; exact zer_none _ _
  own := .inl ⟨rfl, rfl, rfl, rfl⟩
  other := fun y hy => .inl (.inl hy.sure)
/-- More may come. -/
theorem JInv.more (h : JInv g nb rs xs bs S L) {xs' bs' : List (List Nat)} (hx : ∀ x ∈ xs, x ∈ xs') (hb : ∀ b ∈ bs, b ∈ bs') (hs : ∀ x ∈ xs', x.length ≤ 50) (ht : ∀ b ∈ bs', b.length ≤ 960) : JInv g nb rs xs' bs' S L :=
  { h with
    xshort := hs
    bshort := ht
    next := fun y hy hn => (h.next y hy hn).imp id fun ⟨x, h1, h2⟩ => ⟨x, hx x h1, h2⟩
    other := fun y hy => (h.other y hy).imp id fun ⟨b, h1, h2⟩ => ⟨b, hb b h1, h2⟩ }
/-- An Append whose Flush failed. -/
theorem JInv.appended (h : JInv g nb rs xs bs S L) {x : List Nat} (hx : x.length ≤ 50) (hn : rs.length < 64) (hg : g < 4294967296) : JInv g nb rs (x :: xs) bs S (upd L rs.length (some (secL g rs.length x))) := by
  have hv : ∀ f y, f ≠ rs.length → Val S (upd L rs.length (some (secL g rs.length x))) f y → Val S L f y := by
    intro f y hf hy
    unfold Val at hy ⊢
    rw [upd_other _ _ _ hf] at hy
    exact hy
  refine { few := h.few, short := h.short, xshort := ?_, bshort := h.bshort, logd := ?_, next := ?_, behind := ?_, fresh := ?_, own := ?_, other := ?_ }
  · intro y hy
    rcases List.mem_cons.1 hy with rfl | hy
    · exact hx
    · exact h.xshort y hy
  · intro f hf
    refine ⟨(h.logd f hf).1, ?_⟩
    rw [upd_other _ _ _ (by omega)]
    exact (h.logd f hf).2
  · intro y hy hn2
    rcases hy with hy | hy
    · exact (h.next y (.inl hy) hn2).imp id fun ⟨x, h1, h2⟩ => ⟨x, List.mem_cons_of_mem _ h1, h2⟩
    · rw [upd_same] at hy
      injection hy with hy
      exact .inr ⟨x, List.mem_cons_self, hy.symm⟩
  · intro f y h1 h2 hy
    exact h.behind f y h1 h2 (hv f y (by omega) hy)
  · intro f y g' hf hy hg1 hg2 hr
    by_cases e : f = rs.length
    · subst e
      rcases hy with hy | hy
      · exact h.fresh _ y g' hf (.inl hy) hg1 hg2 hr
      · rw [upd_same] at hy
        injection hy with hy
        rw [← hy] at hr
        have := secL_other hx hr hg hg2
        omega
    · exact h.fresh f y g' hf (hv f y e hy) hg1 hg2 hr
  · rcases h.own with ⟨h1, h2, h3, h4⟩ | ⟨h1, h2, h3, h4, h5⟩
    · exact .inl ⟨h1, h2, h3, by rw [upd_other _ _ _ (by omega)]; exact h4⟩
    · exact .inr ⟨h1, h2, h3, h4, fun f k1 k2 => by rw [upd_other _ _ _ (by omega)]; exact h5 f k1 k2⟩
  · intro y hy
    exact h.other y (hv _ y (by omega) hy)
/-- An Append that was done. -/
theorem JInv.append_ (h : JInv g nb rs xs [] S L) {x : List Nat} (hx : x.length ≤ 50) (hn : rs.length < 64) (hg : g < 4294967296) : JInv g nb (rs ++ [x]) [] [] (upd (last S L) rs.length (secL g rs.length x)) (fun _ => none) := by
  have hlen : (rs ++ [x]).length = rs.length + 1 := by simp
  have hv : ∀ f y, f ≠ rs.length → Val (upd (last S L) rs.length (secL g rs.length x)) (fun _ => none) f y → Val S L f y := by
    intro f y hf hy
    rw [hy.sure, upd_other _ _ _ hf]
    exact Val.last_ S L f
  have hl : ∀ f, L f = none → last S L f = S f := fun f hf => by unfold last; rw [hf]; rfl
  refine { few := by omega, short := ?_, xshort := (fun y hy => by cases hy), bshort := (fun y hy => by cases hy), logd := ?_, next := ?_, behind := ?_, fresh := ?_, own := ?_, other := ?_ }
  · intro j hj
    rw [hlen] at hj
    by_cases e : j = rs.length
    · subst e
      simpa using hx
    · have := h.short j (by omega)
      rw [List.getD_eq_getElem?_getD, List.getElem?_append_left (by omega), ← List.getD_eq_getElem?_getD]
      exact this
  · intro f hf
    rw [hlen] at hf
    refine ⟨?_, rfl⟩
    by_cases e : f = rs.length
    · subst e
      rw [upd_same]
      simp
    · rw [upd_other _ _ _ e, hl f (h.logd f (by omega)).2, (h.logd f (by omega)).1]
      rw [List.getD_eq_getElem?_getD, List.getD_eq_getElem?_getD, List.getElem?_append_left (by omega)]
  · intro y hy hn2
    rw [hlen] at hy hn2 ⊢
    exact .inl (h.behind _ y (by omega) hn2 (hv _ y (by omega) hy))
  · intro f y h1 h2 hy
    rw [hlen] at h1
    exact h.behind f y (by omega) h2 (hv f y (by omega) hy)
  · intro f y g' hf hy hg1 hg2 hr
    by_cases e : f = rs.length
    · subst e
      rw [hy.sure, upd_same] at hr
      have := secL_other hx hr hg hg2
      omega
    · exact h.fresh f y g' hf (hv f y e hy) hg1 hg2 hr
  · rcases h.own with ⟨h1, h2, h3, h4⟩ | ⟨h1, h2, h3, h4, h5⟩
    · exact .inl ⟨h1, h2, by rw [upd_other _ _ _ (by omega), hl _ h4]; exact h3, rfl⟩
    · refine .inr ⟨h1, h2, by rw [upd_other _ _ _ (by omega), hl _ (h5 _ (by omega) (by omega))]; exact h3, ?_, fun _ _ _ => rfl⟩
      rw [sloA_congr (F' := S) (fun f k1 k2 => by rw [upd_other _ _ _ (by omega), hl _ (h5 _ (by omega) (by omega))])]
      exact h4
  · intro y hy
    exact h.other y (hv _ y (by omega) hy)
/-- A Rebase that failed while its bytes were written, or made sure. -/
theorem JInv.rebasing (h : JInv g nb rs xs bs S L) {b : List Nat} (hb : b.length ≤ 960) {k : Nat} (hk : k ≤ nsec b) : JInv g nb rs xs (b :: bs) S (looL L (g + 1) b k) := by
  have hns := nsec_le hb
  have hno : ∀ f, (f < 65 + 16 * ((g + 1) % 2) ∨ 80 + 16 * ((g + 1) % 2) ≤ f) → looL L (g + 1) b k f = L f := by
    intro f hf
    unfold looL
    rw [if_neg (by omega)]
  have hv : ∀ f y, (f < 65 + 16 * ((g + 1) % 2) ∨ 80 + 16 * ((g + 1) % 2) ≤ f) → Val S (looL L (g + 1) b k) f y → Val S L f y := by
    intro f y hf hy
    unfold Val at hy ⊢
    rw [hno f hf] at hy
    exact hy
  have hm := h.more (xs' := xs) (bs' := b :: bs) (fun _ h => h) (fun _ h => List.mem_cons_of_mem _ h) h.xshort (fun y hy => by
    rcases List.mem_cons.1 hy with rfl | hy
    · exact hb
    · exact h.bshort y hy)
  refine { hm with
    logd := fun f hf => ⟨(h.logd f hf).1, by rw [hno f (by have := h.few; omega)]; exact (h.logd f hf).2⟩
    next := fun y hy hn => hm.next y (hv _ y (by omega) hy) hn
    behind := fun f y h1 h2 hy => h.behind f y h1 h2 (hv f y (by omega) hy)
    fresh := fun f y g' hf hy => h.fresh f y g' hf (hv f y (by omega) hy)
    own := ?_
    other := fun y hy => hm.other y (hv _ y (by omega) hy) }
  rcases h.own with ⟨h1, h2, h3, h4⟩ | ⟨h1, h2, h3, h4, h5⟩
  · exact .inl ⟨h1, h2, h3, by rw [hno _ (by omega)]; exact h4⟩
  · exact .inr ⟨h1, h2, h3, h4, fun f k1 k2 => by rw [hno f (by omega)]; exact h5 f k1 k2⟩
/-- .. ahead of its head: the bytes are sure. -/
theorem JInv.rebased (h : JInv g nb rs xs bs S L) {b : List Nat} (hb : b.length ≤ 960) : JInv g nb rs xs (b :: bs) (datL (last S L) (g + 1) b (nsec b)) (fun _ => none) := by
  have hns := nsec_le hb
  have hl : ∀ f, L f = none → last S L f = S f := fun f hf => by unfold last; rw [hf]; rfl
  have hno : ∀ f, (f < 65 + 16 * ((g + 1) % 2) ∨ 80 + 16 * ((g + 1) % 2) ≤ f) → datL (last S L) (g + 1) b (nsec b) f = last S L f := fun f hf => datL_other (by omega)
  have hv : ∀ f y, (f < 65 + 16 * ((g + 1) % 2) ∨ 80 + 16 * ((g + 1) % 2) ≤ f) → Val (datL (last S L) (g + 1) b (nsec b)) (fun _ => none) f y → Val S L f y := by
    intro f y hf hy
    rw [hy.sure, hno f hf]
    exact Val.last_ S L f
  have hm := h.more (xs' := xs) (bs' := b :: bs) (fun _ h => h) (fun _ h => List.mem_cons_of_mem _ h) h.xshort (fun y hy => by
    rcases List.mem_cons.1 hy with rfl | hy
    · exact hb
    · exact h.bshort y hy)
  refine { hm with
    logd := fun f hf => ⟨by rw [hno f (by have := h.few; omega), hl f (h.logd f hf).2]; exact (h.logd f hf).1, rfl⟩
    next := fun y hy hn => hm.next y (hv _ y (by omega) hy) hn
    behind := fun f y h1 h2 hy => h.behind f y h1 h2 (hv f y (by omega) hy)
    fresh := fun f y g' hf hy => h.fresh f y g' hf (hv f y (by omega) hy)
    own := ?_
    other := fun y hy => hm.other y (hv _ y (by omega) hy) }
  rcases h.own with ⟨h1, h2, h3, h4⟩ | ⟨h1, h2, h3, h4, h5⟩
  · exact .inl ⟨h1, h2, by rw [hno _ (by omega), hl _ h4]; exact h3, rfl⟩
  · refine .inr ⟨h1, h2, by rw [hno _ (by omega), hl _ (h5 _ (by omega) (by omega))]; exact h3, ?_, fun _ _ _ => rfl⟩
    rw [sloA_congr (F' := S) (fun f k1 k2 => by rw [hno f (by omega), hl _ (h5 _ (by omega) (by omega))])]
    exact h4
/-- .. while its head is loose. -/
theorem JInv.headed {b : List Nat} (h : JInv g nb rs xs (b :: bs) S (fun _ => none)) : JInv g nb rs xs (b :: bs) S (upd (fun _ => none) (64 + 16 * ((g + 1) % 2)) (some (hedL (g + 1) b))) := by
  have hv : ∀ f y, f ≠ 64 + 16 * ((g + 1) % 2) → Val S (upd (fun _ => none) (64 + 16 * ((g + 1) % 2)) (some (hedL (g + 1) b))) f y → Val S (fun _ => none) f y := by
    intro f y hf hy
    unfold Val at hy ⊢
    rw [upd_other _ _ _ hf] at hy
    exact hy
  have hno : ∀ f, f ≠ 64 + 16 * ((g + 1) % 2) → (upd (fun _ => none) (64 + 16 * ((g + 1) % 2)) (some (hedL (g + 1) b)) : Nat → Option (List Nat)) f = none := fun f hf => upd_other _ _ _ hf
  have few := h.few
  refine { h with
    logd := fun f hf => ⟨(h.logd f hf).1, hno f (by omega)⟩
    next := fun y hy hn => h.next y (hv _ y (by omega) hy) hn
    behind := fun f y h1 h2 hy => h.behind f y h1 h2 (hv f y (by omega) hy)
    fresh := fun f y g' hf hy => h.fresh f y g' hf (hv f y (by omega) hy)
    own := ?_
    other := ?_ }
  · rcases h.own with ⟨h1, h2, h3, h4⟩ | ⟨h1, h2, h3, h4, h5⟩
    · exact .inl ⟨h1, h2, h3, hno _ (by omega)⟩
    · exact .inr ⟨h1, h2, h3, h4, fun f k1 k2 => hno f (by omega)⟩
  · intro y hy
    rcases hy with hy | hy
    · exact h.other y (.inl hy)
    · rw [upd_same] at hy
      injection hy with hy
      exact .inr ⟨b, List.mem_cons_self, hy.symm⟩
/-- A Rebase that was done. -/
theorem JInv.rebase_ (h : JInv g nb rs xs bs S L) {b : List Nat} (hb : b.length ≤ 960) (hg : g + 1 < 4294967296) : JInv (g + 1) b [] [] [] (savL (last S L) (g + 1) b) (fun _ => none) := by
  have hl : ∀ f, L f = none → last S L f = S f := fun f hf => by unfold last; rw [hf]; rfl
  have hns := nsec_le hb
  have hno : ∀ f, (f < 64 + 16 * ((g + 1) % 2) ∨ 80 + 16 * ((g + 1) % 2) ≤ f) → savL (last S L) (g + 1) b f = last S L f := fun f hf => sav_other hb hf
  have hv : ∀ f y, (f < 64 + 16 * ((g + 1) % 2) ∨ 80 + 16 * ((g + 1) % 2) ≤ f) → Val (savL (last S L) (g + 1) b) (fun _ => none) f y → Val S L f y := by
    intro f y hf hy
    rw [hy.sure, hno f hf]
    exact Val.last_ S L f
  refine { few := by simp, short := (fun j hj => absurd hj (by simp)), xshort := (fun y hy => by cases hy), bshort := (fun y hy => by cases hy), logd := (fun j hj => absurd hj (by simp)), next := ?_, behind := ?_, fresh := ?_, own := ?_, other := ?_ }
  · intro y hy _
    exact .inl (h.fresh 0 y (g + 1) (by omega) (hv 0 y (by omega) hy) (by omega) hg)
  · intro f y _ hf hy
    exact h.fresh f y (g + 1) hf (hv f y (by omega) hy) (by omega) hg
  · intro f y g' hf hy hg1 hg2
    exact h.fresh f y g' hf (hv f y (by omega) hy) (by omega) hg2
  · refine .inr ⟨by omega, hb, upd_same _ _ _, ?_, fun _ _ _ => rfl⟩
    refine flat_take _ _ b (nsec b) 15 (fun j hj => ?_) hns (by unfold nsec; omega)
    unfold savL
    rw [upd_other _ _ _ (by omega)]
    exact datL_at hj
  · intro y hy
    rw [hy.sure, hno _ (by omega)]
    have e : (g + 1 + 1) % 2 = g % 2 := by omega
    rw [e]
    rcases h.own with ⟨h1, h2, h3, h4⟩ | ⟨h1, h2, h3, h4, h5⟩
    · subst h1
      exact .inl (.inl (by rw [show 64 + 16 * (0 % 2) = 64 from rfl, hl _ h4]; exact h3))
    · rw [hl _ (h5 _ (by omega) (by omega)), h3]
      exact .inl (.inr (by rw [hedL_gen (by omega)]; omega))

/-! ### what is found -/

/-- The gen and the base that are loaded. -/
theorem JInv.load (h : JInv g nb rs xs bs S L) (hg : g + 1 < 4294967296) {F : Nat → List Nat} (hF : ∀ f, f < 192 → Val S L f (F f)) (h64 : ∀ f, f < 192 → (F f).length = 64) :
    loadR F = (g, nb) ∨ ∃ b ∈ bs, ∃ B, loadR F = (g + 1, B) ∧ B.length = b.length ∧ hedL (g + 1) B = hedL (g + 1) b := by
  have hS : ∀ f, f < 192 → L f = none → F f = S f := by
    intro f hf hn
    rcases hF f hf with h | h
    · exact h
    · rw [hn] at h; cases h
  have e1 : 1 - (g + 1) % 2 = g % 2 := by omega
  have e2 : 1 - g % 2 = (g + 1) % 2 := by omega
  -- the own slot
  have hown : (g = 0 ∧ nb = [] ∧ ¬ Whole F (g % 2)) ∨ (0 < g ∧ Whole F (g % 2) ∧ sloG F (g % 2) = g ∧ sloB F (g % 2) = nb) := by
    rcases h.own with ⟨h1, h2, h3, h4⟩ | ⟨h1, h2, h3, h4, h5⟩
    · subst h1
      exact .inl ⟨rfl, h2, zer_slot (by show F 64 = zer; rw [hS 64 (by omega) h4]; exact h3)⟩
    · refine .inr ⟨h1, ?_⟩
      refine whole_of (by omega) rfl h2 (by rw [hS _ (by omega) (h5 _ (by omega) (by omega))]; exact h3) ?_
      rw [sloA_congr (F' := S) (fun f k1 k2 => hS f (by omega) (h5 f (by omega) (by omega)))]
      exact h4
  have hne : Whole F ((g + 1) % 2) → sloG F ((g + 1) % 2) < g ∨ ∃ b ∈ bs, F (64 + 16 * ((g + 1) % 2)) = hedL (g + 1) b := by
    intro hw
    rcases h.other _ (hF _ (by omega)) with (h1 | h1) | h1
    · exact absurd hw (zer_slot h1)
    · exact .inl h1
    · exact .inr h1
  by_cases c : Whole F ((g + 1) % 2) ∧ ∃ b ∈ bs, F (64 + 16 * ((g + 1) % 2)) = hedL (g + 1) b
  · obtain ⟨hw, b, hb, hh⟩ := c
    have hbl := h.bshort b hb
    have hG : sloG F ((g + 1) % 2) = g + 1 := by unfold sloG; rw [hh]; exact hedL_gen (by omega)
    have hN : sloN F ((g + 1) % 2) = b.length := by unfold sloN; rw [hh]; exact hedL_len (by omega)
    refine .inr ⟨b, hb, sloB F ((g + 1) % 2), ?_, ?_, ?_⟩
    · refine load_of ⟨hw, hG, rfl⟩ (fun hw2 => ?_)
      rw [e1] at hw2 ⊢
      rcases hown with ⟨h1, _, h2⟩ | ⟨_, _, h2, _⟩
      · exact absurd hw2 h2
      · omega
    · unfold sloB
      rw [List.length_take, hN, sloA_length _ (fun f k1 k2 => h64 f (by omega))]
      omega
    · have := hw.2.2
      rw [hG, hh] at this
      exact this
  · refine .inl ?_
    rcases hown with ⟨h1, h2, h3⟩ | ⟨h1, h2⟩
    · subst h1
      rw [h2]
      refine load_none h3 (fun hw => ?_)
      rcases hne hw with h4 | h4
      · omega
      · exact c ⟨hw, h4⟩
    · refine load_of h2 (fun hw => ?_)
      rw [e2] at hw ⊢
      rcases hne hw with h4 | h4
      · exact h4
      · exact absurd ⟨hw, h4⟩ c
/-- The records of the gen that stands. -/
theorem JInv.recs (h : JInv g nb rs xs bs S L) (hg : g < 4294967296) {F : Nat → List Nat} (hF : ∀ f, f < 192 → Val S L f (F f)) {m : Nat} (hm : Stop F g m) : pays F m = rs ∨ ∃ x ∈ xs, pays F m = rs ++ [x] := by
  have hS : ∀ f, f < 192 → L f = none → F f = S f := by
    intro f hf hn
    rcases hF f hf with h | h
    · exact h
    · rw [hn] at h; cases h
  have few := h.few
  have hin : ∀ f, f < rs.length → F f = secL g f (rs.getD f []) := fun f hf => by
    rw [hS f (by omega) (h.logd f hf).2]
    exact (h.logd f hf).1
  have hpay : ∀ f, f < rs.length → pay F f = rs.getD f [] := fun f hf => by
    unfold pay
    rw [hin f hf, secL_at8 (h.short f hf), secL_pay]
  have hpre : pays F rs.length = rs := by
    refine List.ext_getElem (pays_length _ _) (fun j h1 h2 => ?_)
    have e1 := pays_getD F rs.length j h2
    rw [hpay j h2] at e1
    simpa [List.getD_eq_getElem?_getD, h2, pays_length] using e1
  by_cases hn : rs.length < 64
  · by_cases c : IsRec (F rs.length) g rs.length
    · rcases h.next _ (hF _ (by omega)) hn with h1 | ⟨x, h1, h2⟩
      · exact absurd c h1
      · have hs : Stop F g (rs.length + 1) := by
          refine ⟨by omega, fun j hj => ?_, fun hl => h.behind _ _ (by omega) hl (hF _ (by omega))⟩
          by_cases e : j = rs.length
          · subst e; exact c
          · rw [hin j (by omega)]; exact secL_rec (h.short j (by omega))
        obtain rfl := hm.uniq hs (fun j _ => rfl)
        refine .inr ⟨x, h1, ?_⟩
        rw [pays_succ, hpre]
        congr 2
        unfold pay
        rw [h2, secL_at8 (h.xshort x h1), secL_pay]
    · have hs : Stop F g rs.length := ⟨few, fun j hj => by rw [hin j hj]; exact secL_rec (h.short j hj), fun _ => c⟩
      obtain rfl := hm.uniq hs (fun j _ => rfl)
      exact .inl hpre
  · have hs : Stop F g rs.length := ⟨few, fun j hj => by rw [hin j hj]; exact secL_rec (h.short j hj), fun hl => absurd hl hn⟩
    obtain rfl := hm.uniq hs (fun j _ => rfl)
    exact .inl hpre
/-- .. and of the next one. -/
theorem JInv.recs_next (h : JInv g nb rs xs bs S L) (hg : g + 1 < 4294967296) {F : Nat → List Nat} (hF : ∀ f, f < 192 → Val S L f (F f)) {m : Nat} (hm : Stop F (g + 1) m) : pays F m = [] := by
  have hs : Stop F (g + 1) 0 := ⟨by omega, fun j hj => absurd hj (by omega), fun _ => h.fresh 0 _ (g + 1) (by omega) (hF 0 (by omega)) (by omega) hg⟩
  obtain rfl := hm.uniq hs (fun j _ => rfl)
  rfl
/-- Behind a crash that tears no sector each sector is one of those that it may be. -/
theorem JInv.crash (h : JInv g nb rs xs bs S L) {K tn : Nat} (hS : ∀ f, f < 192 → (S f).length = 64) (hL : ∀ f y, L f = some y → y.length = 64) (ht : tn = 0 ∨ tn = 64) : ∀ f, f < 192 → Val S L f (crashL S L (keptL (keysL 192 L) K) tn f) := by
  intro f _
  rcases crash_or (K := K) hS hL ht f with h1 | ⟨y, h1, h2⟩
  · exact .inl h1
  · exact .inr (by rw [h2]; exact h1)
end
end Go.Proofs.Ytggidgfmkidkjaa
