/-
  The places of a set, sorted: Collect, SortedFunc, the set's own sorted; Of.
  Conditions: none beside those that each line bears.
-/
import Derived.Test.YtgbkpcmgfjdhdaaBkE
import Derived.Test.YtgbkpcmgfjdhdaaBkC
import Derived.Shelf.SlSortCmp.NoneTotal
namespace Go.Proofs.Ytgbkpcmgfjdhdaa
open Go.RowKit Go.Shelf Go.Lib Go.Sort
set_option linter.unusedVariables false

section
variable {w : World} {g n base cap : Nat} {e : TypeId} {cur : Array Value} {fr : Nat × Nat} {os : Array Obj}
theorem heap_putF (F : Array Value) (hb : w.heap[g]? = some (.cells cur e fr)) :
    (grow (putRow id (Go.Sort.ahead w n) g 0 F) os).heap[g]? = some (.cells (putCells id 0 F cur) e fr) := by
  have hg : g < w.heap.size := (Array.getElem?_eq_some_iff.1 hb).1
  rw [heap_grow_old _ _ (by simpa using hg)]
  simp [putRow, mapBlock, Go.Sort.ahead, Array.getElem?_modify, hb, onCells]
theorem grown_putF (F : Array Value) : w.grownBy (grow (putRow id (Go.Sort.ahead w n) g 0 F) os) (some g) := by
  refine ⟨rfl, rfl, rfl, by simp, fun k hk hne => ?_⟩
  rw [heap_grow_old _ _ (by simpa using hk)]
  have : g ≠ k := fun e => hne (by rw [e])
  simp [putRow, mapBlock, Go.Sort.ahead, Array.getElem?_modify, this]
theorem take_putF (F : Array Value) (h : F.size ≤ cur.size) : (putCells id 0 F cur).toList.take F.size = F.toList := by
  apply List.ext_getElem?
  intro j
  by_cases hj : j < F.size
  · rw [List.getElem?_take_of_lt hj, Array.getElem?_toList]
    simp [putCells, hj, show j < cur.size by omega]
  · rw [List.getElem?_take_eq_none (by omega), List.getElem?_eq_none (by simp; omega)]
end
theorem flatK_flatP (l : List Pl) : flatK encL 2 l.toArray = (flatP l).toArray := by
  refine Go.Sort.ext_get! (by simp [flatP_length]) fun t ht => ?_
  have ht' : t < l.length * 2 := by simpa using ht
  rw [get_flatK _ _ _ _ (by simpa using ht')]
  obtain ⟨j, hj⟩ : ∃ j, j = t / 2 := ⟨_, rfl⟩
  have hjl : j < l.length := by omega
  obtain ⟨h1, h2⟩ := flatP_at hjl
  have e1 : l.toArray[j]! = l.getD j pl0 := by
    simp [getElem!_def, List.getD_eq_getElem?_getD, List.getElem?_eq_getElem hjl]
  rw [← hj, e1]
  by_cases c : t % 2 = 0
  · obtain rfl : t = j * 2 := by omega
    rw [c]
    have : (flatP l).toArray[j * 2]! = .int .i64 (l.getD j pl0).c := by
      rw [getElem!_def, List.getElem?_toArray, h1]
    rw [this]
    rfl
  · obtain rfl : t = j * 2 + 1 := by omega
    rw [show (j * 2 + 1) % 2 = 1 by omega]
    have : (flatP l).toArray[j * 2 + 1]! = .int .i64 (l.getD j pl0).g := by
      rw [getElem!_def, List.getElem?_toArray, h2]
    rw [this]
    rfl
theorem aggPlace (w : World) : (isAgg 29).run Try.prog w = .ok true w := Try.isAgg29 w
theorem sizePlace (w : World) : (Go.sizeOf 29).run Try.prog w = .ok 2 w := Try.sizeOf29 w
/-- How a list comes out of the sort. -/
def srtd (l : List Pl) : List Pl := l.mergeSort fun x y => !ltOf cmpP y x
theorem srtd_perm (l : List Pl) : (srtd l).Perm l := List.mergeSort_perm l _
theorem srtd_srt {l : List Pl} (hn : l.Nodup) : SrtP (srtd l) := by
  have hd : (srtd l).Nodup := (srtd_perm l).nodup_iff.2 hn
  have hp : (srtd l).Pairwise (fun a b => (!ltOf cmpP b a) = true) := by
    refine List.pairwise_mergeSort (fun a b c h1 h2 => ?_) (fun a b => ?_) l
    · rw [cmpP_lt] at *
      have h1' : ¬ ltP b a := by simpa using h1
      have h2' : ¬ ltP c b := by simpa using h2
      have : ¬ ltP c a := fun h => by
        by_cases e : c = b
        · subst e; exact h1' h
        · exact h1' ((ltP.tri h2' e).trans h)
      simpa using this
    · rw [cmpP_lt, cmpP_lt]
      by_cases h : ltP b a
      · have := ltP.asym h
        simp [this]
      · simp [h]
  refine (hp.and hd).imp fun {a b} h => ?_
  rw [cmpP_lt] at h
  have h1 : ¬ ltP b a := by simpa using h.1
  exact ltP.tri h1 (fun e => h.2 e.symm)
/-- The library's sort of places. -/
theorem sortP_any (g cap base : Nat) (ss : List Pl) (w : World) (h : w.ownsRow base 29 2 (.slice (some ⟨g, 0, none⟩) ss.length cap) ss.length (flatP ss)) (hn : ss.length ≤ 1000000) :
    Calls Try.prog 31 #[.slice (some ⟨g, 0, none⟩) ss.length cap, .func (.func 25) #[] #[]] w fun e w' => e = .returned (.tuple #[]) ∧
      w'.ownsRow base 29 2 (.slice (some ⟨g, 0, none⟩) ss.length cap) ss.length (flatP (srtd ss)) ∧ w.grownBy w' (some g) := by
  have hlt := (h.lt g rfl)
  have hcell := h.cells (g := g) rfl
  obtain ⟨_, ⟨e1, _⟩ | ⟨g', cap', cur, ev, hbase, hb, h1, h2, h3, h4⟩⟩ := h
  · cases e1
  · injection ev with ev1 _ ev3
    injection ev1 with ev1
    injection ev1 with ev1
    subst ev1 ev3
    have hH : HoldsK encL 2 w g 0 ss.toArray := by
      unfold HoldsK
      rw [flatK_flatP]
      intro j hj
      have hj' : j < (flatP ss).length := by simpa using hj
      refine ⟨?_, by simp [World.frozen?, hb]⟩
      have := hcell j ((flatP ss)[j]) (List.getElem?_eq_getElem hj')
      rw [Addr.add_lit] at this
      rw [this]
      simp [getElem!_def, List.getElem?_eq_getElem hj']
    have hS := AnyQ.slices_SortFunc_total Try.sortF31 2 aggPlace sizePlace encL (fun _ => rfl) (fun x v hv => by simp [encL] at hv; rcases hv with rfl | rfl <;> rfl) cmpP cmpP_swo 25 #[] g 0 cap ss.toArray w
      (enters_of Try.func25 (by kernel_rfl) rfl) (cmpLaysP g 0 _ w) hH hlt.2 (by simp; omega) (fun x y a b => by
        rw [cmpP_lt] at a b
        exact Classical.byContradiction fun e => (of_decide_eq_false b) (ltP.tri (of_decide_eq_false a) e))
    change Calls Try.prog 31 _ _ _ at hS
    simp only [List.size_toArray] at hS
    refine hS.mono ?_
    rintro e w' ⟨rfl, n, os, rfl⟩
    refine ⟨rfl, ?_, ?_⟩
    · unfold sortWorldK putRowK
      rw [show (ss.mergeSort fun x y => !ltOf cmpP y x) = srtd ss from rfl, flatK_flatP]
      have hl : (flatP (srtd ss)).length = ss.length * 2 := by rw [flatP_length, (srtd_perm ss).length_eq]
      have hl0 : (flatP ss).length = ss.length * 2 := flatP_length ss
      have hcur : ss.length * 2 ≤ cur.size := by rw [h3]; exact Nat.mul_le_mul_right 2 h1
      refine ⟨hl, .inr ⟨g, cap, _, rfl, hbase, heap_putF _ hb, h1, h2, by simp [putCells, h3], ?_⟩⟩
      have := take_putF (cur := cur) (flatP (srtd ss)).toArray (by simp only [List.size_toArray]; omega)
      simp only [List.size_toArray] at this
      rw [← hl]
      exact this
    · unfold sortWorldK putRowK
      exact grown_putF _
end Go.Proofs.Ytgbkpcmgfjdhdaa
