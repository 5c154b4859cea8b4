/-
  Slots in memory, thirty-two sets of places in one block; New; all; has.
  Conditions: none beside those that each line bears.
-/
import Derived.Test.YthfcmfhmaokioaaPlK
import Derived.Test.YthfcmfhmaokioaaSwpP
import Derived.Test.YthfcmfhmaokioaaVals
import Derived.Lib.Hide
namespace Go.Proofs.Ythfcmfhmaokioaa
open Go.RowKit
set_option linter.unusedVariables false

/-- What is answered is in memory of its own. -/
def NewS (w : World) (v : Value) : Prop := ∀ a n c, v = .slice (some a) n c → 0 < n → w.heap.size ≤ a.block
/-- A slot's places, as a set. -/
def setL (l : List Pl) (p : Pl) : Option Value := if p ∈ l then some (.agg #[]) else none
theorem setL_ne {l : List Pl} {p : Pl} : setL l p ≠ none ↔ p ∈ l := by
  unfold setL
  by_cases h : p ∈ l
  · rw [if_pos h]; simp [h]
  · rw [if_neg h]; simp [h]
theorem srt_nd {l : List Pl} (h : SrtP l) : l.Nodup := List.Pairwise.imp (fun h => h.ne) h
/-- The thirty-two maps. -/
def mapsL (mo : Nat → Option Nat) : List Value := (List.range 32).map fun n => .map (mo n)
theorem mapsL_length (mo : Nat → Option Nat) : (mapsL mo).length = 32 := by simp [mapsL]
theorem mapsL_at (mo : Nat → Option Nat) {n : Nat} (h : n < 32) : (mapsL mo)[n]? = some (.map (mo n)) := by
  unfold mapsL
  rw [List.getElem?_map, List.getElem?_range h]
  rfl
theorem mapsL_none : mapsL (fun _ => none) = List.replicate 32 (.map none) := by
  unfold mapsL
  rw [List.map_const']
  simp
/-- The maps with one other. -/
def updM (mo : Nat → Option Nat) (n : Nat) (x : Option Nat) : Nat → Option Nat := fun k => if k = n then x else mo k
theorem mapsL_set (mo : Nat → Option Nat) (n : Nat) (x : Option Nat) : (mapsL mo).set n (.map x) = mapsL (updM mo n x) := by
  refine List.ext_getElem? fun i => ?_
  by_cases c : i < 32
  · rw [List.getElem?_set, mapsL_at _ c, mapsL_at _ c, mapsL_length]
    unfold updM
    by_cases e : n = i
    · subst e
      simp [c]
    · rw [if_neg e, if_neg (fun h => e h.symm)]
  · rw [List.getElem?_eq_none (by rw [List.length_set, mapsL_length]; omega), List.getElem?_eq_none (by rw [mapsL_length]; omega)]
/-- One slot. -/
def OneS (w : World) (K : Nat → Prop) (l : List Pl) : Option Nat → Prop
  | none => l = []
  | some k => K k ∧ ∃ n, MapK EP w k n (setL l)
/-- Slots in memory, in block gS; K: the blocks that its work turns. -/
structure SwpMem (w : World) (gS : Nat) (K : Nat → Prop) (s : SS) : Prop where
  lt : ∀ k, K k → k < w.heap.size
  ok : SsOk s
  len : ∀ n, (s n).length ≤ 200000
  kS : K gS
  at_ : ∃ mo, Blk w gS 52 (mapsL mo).toArray ∧ (∀ n, n < 32 → OneS w K (s n) (mo n)) ∧ ∀ n m k, n < 32 → m < 32 → mo n = some k → mo m = some k → n = m
section
variable {w w' : World} {gS : Nat} {K : Nat → Prop} {s : SS} {l : List Pl} {x : Option Nat}
theorem OneS.far (h : OneS w K l x) (hk : ∀ k, K k → w'.heap[k]? = w.heap[k]?) : OneS w' K l x := by
  cases x with
  | none => exact h
  | some k =>
    obtain ⟨h1, n, h2⟩ := h
    exact ⟨h1, n, h2.far (hk k h1)⟩
theorem SwpMem.far (h : SwpMem w gS K s) (hk : ∀ k, K k → w'.heap[k]? = w.heap[k]?) : SwpMem w' gS K s := by
  obtain ⟨mo, h1, h2, h3⟩ := h.at_
  refine ⟨fun k hk' => ?_, h.ok, h.len, h.kS, mo, ?_, fun n hn => (h2 n hn).far hk, h3⟩
  · have e := hk k hk'
    rw [Array.getElem?_eq_getElem (h.lt k hk')] at e
    exact (Array.getElem?_eq_some_iff.1 e).1
  · unfold Blk at *
    rw [hk gS h.kS]
    exact h1
theorem SwpMem.fresh (h : SwpMem w gS K s) (hb : Below w.heap.size w w') : SwpMem w' gS K s := h.far fun k hk => hb.block k (h.lt k hk)
theorem SwpMem.only (h : SwpMem w gS K s) {g : Nat} (ho : Only g w w') (hg : ¬ K g) : SwpMem w' gS K s := h.far fun k hk => ho.1.block k (h.lt k hk) (fun e => hg (by injection e with e; exact e ▸ hk))
/-- The set of a slot's places is just as great. -/
theorem OneS.tight {k : Nat} (h : OneS w K l (some k)) (hs : SrtP l) : MapK EP w k l.length (setL l) := by
  obtain ⟨_, n, h1⟩ := h
  obtain ⟨D, d1, _, d2, d3⟩ := h1.tight (srt_nd hs) (fun x => setL_ne.symm)
  exact ⟨D, d1, d2, d3⟩
end
/-- What a call that turns it leaves. -/
def SwpPost (w : World) (gS : Nat) (K : Nat → Prop) (v : Value) (s' : SS) (e : Ending) (w' : World) : Prop :=
  ∃ K' : Nat → Prop, e = .returned v ∧ SwpMem w' gS K' s' ∧ (∀ k, K' k → K k ∨ w.heap.size ≤ k) ∧ Turns K w w'
theorem swap_new (w : World) : Calls Try.prog 9 #[] w fun e w' => ∃ gS K, e = .returned (.pointer (some ⟨gS, 0, none⟩)) ∧ SwpMem w' gS K ss0 ∧ (∀ k, K k → w.heap.size ≤ k) ∧ Below w.heap.size w w' := by
  go_enter Try.func9, Try.ntmps9
  go_wp2
  go_ret
  refine ⟨w.heap.size, fun k => k = w.heap.size, rfl, ⟨fun k e => ?_, ss0_ok, fun n => Nat.zero_le _, rfl, fun _ => none, ?_, fun n _ => rfl, fun n m k _ _ h => by cases h⟩, fun k e => by rw [e]; exact Nat.le_refl _, belAl (Below.refl _ w) _⟩
  · rw [e]
    simp
  · rw [mapsL_none]
    exact Blk.new _ _ _
theorem all_nil (w : World) : Calls Try.prog 30 #[.pointer none] w fun e w' => e = .returned (.slice none 0 0) ∧ w' = w := by
  go_enter Try.func30, Try.ntmps30
  go_wp2
  go_ret
  exact ⟨rfl, rfl⟩
theorem all_any (gS : Nat) (w : World) : Calls Try.prog 30 #[.pointer (some ⟨gS, 0, none⟩)] w fun e w' => e = .returned (.slice (some ⟨gS, 0, none⟩) 32 32) ∧ w' = w := by
  go_enter Try.func30, Try.ntmps30
  go_wp2
  go_ret
  exact ⟨rfl, rfl⟩
theorem has_nil (n : Int) (w : World) : Calls Try.prog 20 #[.pointer none, .int .i64 n] w fun e w' => e = .returned (.bool false) ∧ w' = w := by
  by_cases c : 0 ≤ n
  · have t1 : decide (0 ≤ n) = true := decide_eq_true c
    have t2 : decide (n < 0) = false := decide_eq_false (by omega)
    go_enter Try.func20, Try.ntmps20
    go_wp2_with fail
    refine (all_nil _).mono ?_
    rintro e w' ⟨rfl, rfl⟩
    go_wp2_with fail
    go_ret
    exact ⟨rfl, rfl⟩
  · have t1 : decide (0 ≤ n) = false := decide_eq_false c
    go_enter Try.func20, Try.ntmps20
    go_wp2_with fail
    go_ret
    exact ⟨rfl, rfl⟩
theorem has_any (gS : Nat) (n : Int) (w : World) : Calls Try.prog 20 #[.pointer (some ⟨gS, 0, none⟩), .int .i64 n] w fun e w' => e = .returned (.bool (decide (isSlot n))) ∧ w' = w := by
  by_cases c : 0 ≤ n
  · have t1 : decide (0 ≤ n) = true := decide_eq_true c
    have t3 : decide (isSlot n) = decide (n < 32) := decide_eq_decide.2 ⟨fun h => h.2, fun h => ⟨c, h⟩⟩
    rw [t3]
    go_enter Try.func20, Try.ntmps20
    go_wp2_with fail
    refine (all_any gS _).mono ?_
    rintro e w' ⟨rfl, rfl⟩
    go_wp2_with fail
    go_ret
    exact ⟨rfl, rfl⟩
  · have t1 : decide (0 ≤ n) = false := decide_eq_false c
    rw [decide_eq_false (show ¬ isSlot n from fun h => c h.1)]
    go_enter Try.func20, Try.ntmps20
    go_wp2_with fail
    go_ret
    exact ⟨rfl, rfl⟩
end Go.Proofs.Ythfcmfhmaokioaa
