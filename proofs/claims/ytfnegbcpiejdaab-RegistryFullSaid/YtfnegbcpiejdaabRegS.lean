/-
  The contract of the registry's Bad: the bad frames, rising; nothing that was there turns.
  Conditions: the registry is in memory.
-/
import Derived.Test.YtfnegbcpiejdaabRegC
import Derived.Test.YtfnegbcpiejdaabKeys
import Derived.Test.YtfnegbcpiejdaabShelf
import Derived.Test.YtfnegbcpiejdaabSortNil
import Derived.Shelf.SlIterI.Sorted
import Derived.Shelf.AbstractIn
import Derived.OwnWalkIn
import Derived.TacticsInMore
namespace Go.Proofs.Ytfnegbcpiejdaab
open Go.RowKit Go.Shelf Go.Maps Go.Sort
set_option linter.unusedVariables false

theorem MapV.perm_in {P : Program} {k : TypeId} {w : World} {b n : Nat} {L : Nat → Option Value} (h : MapV P k w b n L) (hk : P.underlying k = some (.int .i64)) {js : List Nat} (hnd : js.Nodup) (hm : ∀ j, j ∈ js ↔ (L j).isSome = true) :
    ∃ D, w.ownsMap P k valR b n D ∧ Maps.size D ≤ n ∧ (js.map (fun (j : Nat) => (j : Int))).Perm (intKeys D) ∧ ∀ x, Maps.has D (.int .i64 x) = true → ∃ j : Nat, j < n ∧ x = (j : Int) := by
  have K := Maps.int_keyed hk
  obtain ⟨D, h1, h2, h3⟩ := h.tight K
  obtain ⟨E, rfl, hp, hkl, _⟩ := ownV_held h1 K
  refine ⟨_, h1, h1.size_le, perm_intKeys hp (fun p hp' => ?_) (List.pairwise_map.2 (hnd.imp fun {a b} hne e => hne (by omega))) (fun x => ?_), fun x hx => ?_⟩
  · obtain ⟨j, _, e⟩ := h3 p.1 (List.any_eq_true.2 ⟨p, hp', WideAt.sameKey_self (hkl p hp').1⟩)
    exact ⟨_, e⟩
  · constructor
    · intro hx
      obtain ⟨j, hj, rfl⟩ := List.mem_map.1 hx
      rw [hasV_look h1 K, h2]
      exact (hm j).1 hj
    · intro hx
      obtain ⟨j, _, e⟩ := h3 _ hx
      injection e with _ e
      subst e
      rw [hasV_look h1 K, h2] at hx
      exact List.mem_map.2 ⟨j, (hm j).2 hx, rfl⟩
  · obtain ⟨j, hj, e⟩ := h3 _ hx
    injection e with _ e
    exact ⟨j, hj, e⟩
theorem MapV.perm {P : Program} {k : TypeId} {w : World} {b n : Nat} {L : Nat → Option Value} (h : MapV P k w b n L) (hk : P.underlying k = some (.int .i64)) {js : List Nat} (hnd : js.Nodup) (hm : ∀ j, j ∈ js ↔ (L j).isSome = true) :
    ∃ D, w.ownsMap P k valR b n D ∧ Maps.size D ≤ n ∧ (js.map (fun (j : Nat) => (j : Int))).Perm (intKeys D) := by
  obtain ⟨D, h1, h2, h3, _⟩ := h.perm_in hk hnd hm
  exact ⟨D, h1, h2, h3⟩
theorem bads_sorted (l : List Bool) (k : Nat) : (bads l k).Pairwise (· < ·) := (List.pairwise_lt_range (n := k)).filter _
theorem mem_bads_iff {l : List Bool} {k : Nat} (hl : l.length = k) (j : Nat) : j ∈ bads l k ↔ (badF l j).isSome = true := by
  rw [badF_some]
  constructor
  · exact fun h => (bads_lt h).2
  · intro h
    refine mem_bads ?_ h
    apply Classical.byContradiction
    intro hn
    rw [List.getD_eq_getElem?_getD, List.getElem?_eq_none (by omega)] at h
    cases h
/-- The bad frames, as a slice's cells. -/
def badI (md : MD) : List Int := (bads md.1 1024).map (fun (f : Nat) => (f : Int))
theorem badI_sorted {md : MD} {ss : List Int} (h : ss.Perm (badI md)) : ss.mergeSort (fun x y => decide (x ≤ y)) = badI md := by
  have e : ss.mergeSort leI = badI md := by
    rw [mergeSort_of_perm_i h]
    refine List.mergeSort_of_pairwise ?_
    unfold badI
    refine List.pairwise_map.2 ((bads_sorted _ _).imp fun {a b} hab => ?_)
    show decide _ = true
    exact decide_eq_true (by omega)
  exact e
theorem bad_nil (w : World) :
    Calls Try.prog 20 #[.pointer none] w fun e w' => e = .returned (.slice none 0 0) ∧ w = w' := by
  go_enter Try.func20, Try.ntmps20
  go_wp2
  go_ret
  exact ⟨rfl, rfl⟩
theorem sorts_any (m : Nat) : AnyZI.SortsIn Try.prog Try.sortedM35_ren Fence.wide m :=
  ⟨fun blk off cap ss W hH hblk hsz => callsIn_wide.2 (Try.slices_Sort_int blk off cap ss W hH hblk hsz),
   fun p cap W => callsIn_wide.2 ((sort_nil p cap W).mono (by rintro e w' ⟨rfl, rfl⟩; exact ⟨rfl, rfl⟩))⟩
set_option maxRecDepth 100000 in
set_option maxHeartbeats 1000000 in
theorem bad_any (gR gB gJ : Nat) (md : MD) (w : World) (h : RegAt w gR gB gJ md) :
    Calls Try.prog 20 #[.pointer (some ⟨gR, 0, none⟩)] w fun e w' => ∃ v, e = .returned v ∧ w'.ownsRow w.heap.size 3 1 v (badI md).length ((badI md).map (fun z => Value.int .i64 z)) ∧ Below w.heap.size w w' := by
  have c1 := h.cell1
  obtain ⟨D, hown, hsz, hperm⟩ := h.bad.perm Try.underlying3 (js := bads md.1 1024) ((bads_sorted _ _).imp fun {a b} hab => by omega) (mem_bads_iff h.ok.bad)
  have HP := Lib.hid (show (badI md).Perm (intKeys D) from hperm)
  have hbl := hown.lt
  refine (callsIn_wide (n := 6)).1 ?_
  have hseq : SeqGives Fence.wide 2 Try.prog 55 #[.pointer (some ⟨w.heap.size, 0, none⟩)] encZ (fun ss => ss.Perm (intKeys D)) (Maps.size D) (w.alloc (.cells #[.map (some gB)] 71)) :=
    AnyZI.keys_gives (ρ := Try.keysM36_ren) { Try.keysM36 with } Fence.wide _ trivial rfl (by omega) w.heap.size gB 1024 D _ (by simp) (by simp) (by
      obtain ⟨es, clock, hb, Ft, hs, hD⟩ := hown
      exact ⟨es, clock, (Below.heap_alloc _ _ gB hbl).trans hb, Ft, hs, hD⟩)
  have cK : ∀ mb W, CallsIn Fence.wide 5 Try.prog 36 #[.map mb] W fun e w' => e = .returned (.func (.func 55) #[] #[.pointer (some ⟨W.heap.size, 0, none⟩)]) ∧ w' = W.alloc (.cells #[.map mb] 71) := fun mb W => AnyZI.keys_in Try.keysM36 Fence.wide 5 trivial rfl mb W
  have cS := AnyZI.sorted_in Try.sortedM35 Fence.wide 5 trivial trivial trivial trivial rfl (by omega) (sorts_any _) (enters_of Try.func54 (by kernel_rfl) rfl) 55 #[.pointer (some ⟨w.heap.size, 0, none⟩)] trivial (enters_of Try.func55 (by kernel_rfl) rfl) _ _ (Nat.le_trans hsz (by unfold maxLen; omega)) (by omega) _ hseq
  change CallsIn _ _ Try.prog 35 _ _ _ at cS
  have hfK : Fence.wide.fn 36 := trivial
  have hfS : Fence.wide.fn 35 := trivial
  clear hperm hseq hown h
  refine callsIn_of_wp Try.func20 rfl trivial ?_ rfl
  simp only [Try.ntmps20, List.size_toArray, List.length_cons, List.length_nil, Nat.reduceAdd, Nat.reduceSub, Array.replicate_succ, Array.replicate_zero, List.push_toArray, List.append_toArray, List.nil_append, List.cons_append]
  gi_wp2_with (first
    | (gi_at_call 36; refine (cK _ _).mono ?_; rintro e w' ⟨rfl, rfl⟩)
    | (gi_at_call 35; refine cS.mono ?_; rintro e w' ⟨v, ss, rfl, hS, hrow, hnil, hb⟩))
  go_ret
  refine ⟨v, rfl, ?_, ((Below.refl _ w).alloc (Nat.le_refl _) _).trans (hb.mono (by simp))⟩
  have hpm : ss.Perm (badI md) := hS.trans HP.out.symm
  rw [badI_sorted hpm, hpm.length_eq] at hrow
  exact ownsRow_base_a hrow (by simp)
end Go.Proofs.Ytfnegbcpiejdaab
