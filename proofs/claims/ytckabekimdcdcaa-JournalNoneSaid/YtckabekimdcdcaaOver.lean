/-
  What turns: a function at one place, a block's cells with others laid in. Nothing of the program is named here.
  Conditions: none beside those that each line bears.
-/
import Derived.Test.YtckabekimdcdcaaCopies
import Derived.Deep.MidRow
import Derived.Deep.DrawnRows
namespace Go.Proofs.Ytckabekimdcdcaa
open Go.RowKit
set_option linter.unusedVariables false

/-! ### what turns -/

def upd {α : Type} (F : Nat → α) (f : Nat) (v : α) : Nat → α := fun k => if k = f then v else F k
theorem upd_same {α : Type} (F : Nat → α) (f : Nat) (v : α) : upd F f v f = v := by simp [upd]
theorem upd_other {α : Type} (F : Nat → α) (f : Nat) (v : α) {k : Nat} (h : k ≠ f) : upd F f v k = F k := by simp [upd, h]

/-- A block's cells with others laid in from o on. -/
def Over (cur cur' : Array Value) (o : Nat) (vs : List Value) : Prop := cur'.size = cur.size ∧ ∀ j, cur'[j]? = if o ≤ j ∧ j < o + vs.length then vs[j - o]? else cur[j]?
theorem Over.splice_ {cur : Array Value} {o : Nat} {vs : List Value} (h : o + vs.length ≤ cur.size) : Over cur (splice cur.toList o vs).toArray o vs := by
  refine ⟨by simp [splice]; omega, fun j => ?_⟩
  rw [List.getElem?_toArray, splice_get _ _ _ (by simpa using h)]
  simp
theorem Over.one {cur : Array Value} {o : Nat} {v : Value} (h : o < cur.size) : Over cur (cur.setIfInBounds o v) o [v] := by
  refine ⟨by simp, fun j => ?_⟩
  rw [Array.getElem?_setIfInBounds]
  by_cases h1 : o = j
  · subst h1
    simp [h]
  · rw [if_neg h1, if_neg (by simp; omega)]
theorem Blk.setCells {g : Nat} {t : TypeId} : ∀ (vs : List Value) (o : Nat) {w : World} {cur : Array Value}, Blk w g t cur → o + vs.length ≤ cur.size → ∃ cur', Blk (w.setCells g o vs) g t cur' ∧ Over cur cur' o vs
  | [], o, w, cur, h, _ => ⟨cur, h, rfl, fun j => by rw [if_neg (by simp)]⟩
  | v :: r, o, w, cur, h, hs => by
    rw [List.length_cons] at hs
    obtain ⟨cur', h1, h2, h3⟩ := Blk.setCells r (o + 1) (h.set_ o v) (by simp; omega)
    refine ⟨cur', h1, by simpa using h2, fun j => ?_⟩
    rw [h3 j, List.length_cons, Array.getElem?_setIfInBounds]
    by_cases c1 : o = j
    · subst c1
      rw [if_neg (by omega), if_pos rfl, if_pos (by omega), if_pos (by omega)]
      simp
    · rw [if_neg c1]
      by_cases c2 : o + 1 ≤ j ∧ j < o + 1 + r.length
      · rw [if_pos c2, if_pos (by omega), show j - o = (j - (o + 1)) + 1 by omega, List.getElem?_cons_succ]
      · rw [if_neg c2, if_neg (by omega)]
theorem Only.setCells {g : Nat} : ∀ (vs : List Value) (o : Nat) {w w' : World}, Only g w w' → Only g w (w'.setCells g o vs)
  | [], _, _, _, h => h
  | v :: r, o, _, _, h => Only.setCells r (o + 1) (h.setCell o v)
theorem Only.drew {g : Nat} {w w' : World} (h : Only g w w') : Only g w w'.drew := ⟨⟨h.1.os, h.1.tape, h.1.output, h.1.size, h.1.block⟩, h.2⟩

def zer : List Nat := List.replicate 64 0
theorem zer_length : zer.length = 64 := by simp [zer]
theorem zer_byte : ∀ y ∈ zer, y < 256 := by
  intro y hy
  rw [List.eq_of_mem_replicate hy]
  omega
theorem over_all (xs ys : List Nat) (h : xs.length = ys.length) : over xs 0 ys = ys := by
  simp [over, h]


/-- Of the blocks that are there just those in M may turn. -/
structure Turns (M : Nat → Prop) (w w' : World) : Prop where
  os : w'.os = w.os
  tape : w'.tape = w.tape
  output : w'.output = w.output
  size : w.heap.size ≤ w'.heap.size
  block : ∀ k, k < w.heap.size → ¬ M k → w'.heap[k]? = w.heap[k]?
section
variable {M M' : Nat → Prop} {w w' w'' : World}
theorem Turns.refl (M : Nat → Prop) (w : World) : Turns M w w := ⟨rfl, rfl, rfl, Nat.le_refl _, fun _ _ _ => rfl⟩
theorem Turns.trans (h : Turns M w w') (k : Turns M w' w'') : Turns M w w'' :=
  ⟨k.os.trans h.os, k.tape.trans h.tape, k.output.trans h.output, Nat.le_trans h.size k.size, fun i hi hm => (k.block i (Nat.lt_of_lt_of_le hi h.size) hm).trans (h.block i hi hm)⟩
theorem Turns.mono (h : Turns M w w') (hm : ∀ k, M k → M' k) : Turns M' w w' := ⟨h.os, h.tape, h.output, h.size, fun k hk hn => h.block k hk (fun hk' => hn (hm k hk'))⟩
theorem Turns.of_grown {row : Option Nat} (h : w.grownBy w' row) (hm : ∀ k, row = some k → M k) : Turns M w w' := ⟨h.os, h.tape, h.output, h.size, fun k hk hn => h.block k hk (fun e => hn (hm k e.symm))⟩
theorem Turns.of_only {g : Nat} (h : Only g w w') (hm : M g) : Turns M w w' := Turns.of_grown h.1 (fun k e => by injection e with e; exact e ▸ hm)
theorem Turns.of_below {B : Nat} (h : Below B w w') (hB : w.heap.size ≤ B) : Turns M w w' := ⟨h.os, h.tape, h.output, h.size, fun k hk _ => h.block k (Nat.lt_of_lt_of_le hk hB)⟩
theorem Turns.alloc (h : Turns M w w') (o : Obj) : Turns M w (w'.alloc o) := h.trans (Turns.of_below ((Below.refl _ _).alloc (Nat.le_refl _) _) (Nat.le_refl _))
theorem Turns.drew (h : Turns M w w') : Turns M w w'.drew := ⟨h.os, h.tape, h.output, h.size, h.block⟩
theorem Turns.below (h : Turns M w w') {B : Nat} (hm : ∀ k, M k → B ≤ k) (hB : B ≤ w.heap.size) : Below B w w' :=
  ⟨h.os, h.tape, h.output, h.size, fun k hk => h.block k (Nat.lt_of_lt_of_le hk hB) (fun hk' => by have := hm k hk'; omega)⟩
/-- A block that is new may turn. -/
theorem Turns.new_ {g : Nat} (h : Turns M w w') (k : Only g w' w'') (hg : w.heap.size ≤ g) : Turns M w w'' :=
  ⟨k.1.os.trans h.os, k.1.tape.trans h.tape, k.1.output.trans h.output, Nat.le_trans h.size k.1.size, fun i hi hm => (k.1.block i (Nat.lt_of_lt_of_le hi h.size) (fun e => by injection e with e; omega)).trans (h.block i hi hm)⟩
theorem Turns.blk (h : Turns M w w') {g : Nat} {t : TypeId} {cs : Array Value} (hb : Blk w g t cs) (hm : ¬ M g) : Blk w' g t cs := (h.block g hb.lt hm).trans hb
end
theorem over_whole {cur cur' vs : Array Value} (h : Over cur cur' 0 vs.toList) (hs : cur.size = vs.size) : cur' = vs := by
  obtain ⟨h1, h2⟩ := h
  apply Array.ext
  · omega
  · intro i c1 c2
    have := h2 i
    rw [if_pos (by simp; omega), Nat.sub_zero] at this
    simp [c1, c2] at this
    exact this
/-- A store of a whole array of bytes into a block that is just that long. -/
theorem wpList_store_blk {P : Program} {w : World} {ops : Array Oper} {rest : List Oper} {op : Oper} {a : Act} {Q : Exit → Act → World → Prop} (hgd : op.guard = none) (ty : TypeId) (x y : Operand) (ho : op.op = .store ty x y)
    (b : Nat) (t : TypeId) (cur : Array Value) (xs : List Nat) (hb : Blk w b t cur) (hx : a.eval x = .pointer (some ⟨b, 0, none⟩)) (hy : a.eval y = .agg (xs.map bv).toArray) (hs : cur.size = xs.length) (hi : (P.info? ty).map (·.size) = some xs.length)
    (h : ∀ w', Hid (Blk w' b t (xs.map bv).toArray) → Hid (Only b w w') → wpList P ops Q rest (a.put op.dst undef) w') : wpList P ops Q (op :: rest) a w := by
  have hth : w.there b 0 (xs.map bv).toArray.size := by
    intro j hj
    have hj' : j < cur.size := by simpa [hs] using hj
    exact ⟨by rw [hb.cell, Nat.zero_add, Array.getElem?_eq_getElem hj']; rfl, hb.frozen _⟩
  refine wpList_store_mid hgd ty x y ho b 0 (xs.map bv).toArray hx hy hth (by simpa using hi) (all_oneCell_toArray (map_bv_one xs)) (h _ ?_ (Only.setCells _ _ (Only.refl _ _)))
  obtain ⟨cur', h1, h2⟩ := Blk.setCells ((xs.map bv).toArray.toList) 0 hb (by simp; omega)
  rw [over_whole h2 (by simpa using hs)] at h1
  exact h1
theorem Blk.range_ {w : World} {b : Nat} {t : TypeId} {vs : List Value} (h : Blk w b t vs.toArray) : w.rangeAt b 0 vs := by
  intro j v hv
  rw [h.cell, Nat.zero_add]
  simpa using hv
theorem Blk.uniq {w : World} {g : Nat} {t : TypeId} {c1 c2 : Array Value} (h1 : Blk w g t c1) (h2 : Blk w g t c2) : c1 = c2 := by
  unfold Blk at h1 h2
  rw [h1] at h2
  injection h2 with h2
  injection h2 with h2
end Go.Proofs.Ytckabekimdcdcaa
