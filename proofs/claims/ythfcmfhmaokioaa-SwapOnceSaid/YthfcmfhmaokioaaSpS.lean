/-
  The places of a set, sorted: Collect, SortedFunc, the set's own sorted; Of.
  Conditions: none beside those that each line bears.
-/
import Derived.Test.YthfcmfhmaokioaaSpE
import Derived.Shelf.SlSortCmp.NoneTotal
namespace Go.Proofs.Ythfcmfhmaokioaa
open Go.RowKit Go.Shelf Go.Lib Go.Sort
set_option linter.unusedVariables false

theorem aggPlace (w : World) : (isAgg 29).run Try.prog w = .ok true w := Try.isAgg29 w
theorem sizePlace (w : World) : (Go.sizeOf 29).run Try.prog w = .ok 2 w := Try.sizeOf29 w
/-- The library's sort of places. -/
theorem sortP_any (g cap base : Nat) (ss : List Pl) (w : World) (h : w.ownsRow base 29 2 (.slice (some ⟨g, 0, none⟩) ss.length cap) ss.length (flatP ss)) (hn : ss.length ≤ 1000000) :
    Calls Try.prog 32 #[.slice (some ⟨g, 0, none⟩) ss.length cap, .func (.func 23) #[] #[]] w fun e w' => e = .returned (.tuple #[]) ∧
      w'.ownsRow base 29 2 (.slice (some ⟨g, 0, none⟩) ss.length cap) ss.length (flatP (srtd ss)) ∧ w.grownBy w' (some g) := by
  have hlt := (h.lt g rfl)
  have hcell := h.cells (g := g) rfl
  obtain ⟨_, ⟨e1, _⟩ | ⟨g', cap', cur, ev, hbase, hb, h1, h2, h3, h4⟩⟩ := h
  · cases e1
  · injection ev with ev1 _ ev3
    injection ev1 with ev1
    injection ev1 with ev1
    subst ev1 ev3
    have hH : HoldsK encL 2 w g 0 ss.toArray := by
      unfold HoldsK
      rw [flatK_flatP]
      intro j hj
      have hj' : j < (flatP ss).length := by simpa using hj
      refine ⟨?_, by simp [World.frozen?, hb]⟩
      have := hcell j ((flatP ss)[j]) (List.getElem?_eq_getElem hj')
      rw [Addr.add_lit] at this
      rw [this]
      simp [getElem!_def, List.getElem?_eq_getElem hj']
    have hS := AnyQ.slices_SortFunc_total Try.sortF32 2 aggPlace sizePlace encL (fun _ => rfl) (fun x v hv => by simp [encL] at hv; rcases hv with rfl | rfl <;> rfl) cmpP cmpP_swo 23 #[] g 0 cap ss.toArray w
      (enters_of Try.func23 (by kernel_rfl) rfl) (cmpLaysP g 0 _ w) hH hlt.2 (by simp; omega) (fun x y a b => by
        rw [cmpP_lt] at a b
        exact Classical.byContradiction fun e => (of_decide_eq_false b) (ltP.tri (of_decide_eq_false a) e))
    change Calls Try.prog 32 _ _ _ at hS
    simp only [List.size_toArray] at hS
    refine hS.mono ?_
    rintro e w' ⟨rfl, n, os, rfl⟩
    refine ⟨rfl, ?_, ?_⟩
    · unfold sortWorldK putRowK
      rw [show (ss.mergeSort fun x y => !ltOf cmpP y x) = srtd ss from rfl, flatK_flatP]
      have hl : (flatP (srtd ss)).length = ss.length * 2 := by rw [flatP_length, (srtd_perm ss).length_eq]
      have hl0 : (flatP ss).length = ss.length * 2 := flatP_length ss
      have hcur : ss.length * 2 ≤ cur.size := by rw [h3]; exact Nat.mul_le_mul_right 2 h1
      refine ⟨hl, .inr ⟨g, cap, _, rfl, hbase, heap_putF _ hb, h1, h2, by simp [putCells, h3], ?_⟩⟩
      have := take_putF (cur := cur) (flatP (srtd ss)).toArray (by simp only [List.size_toArray]; omega)
      simp only [List.size_toArray] at this
      rw [← hl]
      exact this
    · unfold sortWorldK putRowK
      exact grown_putF _
end Go.Proofs.Ythfcmfhmaokioaa
