/-
  Procs: the numbers of all processes, rising.
  Procs, as users see it.
  Conditions: those that each line bears.
-/
import Derived.Test.YtgjkdnpidobabaaGreatQc48
import Derived.Test.YtgjkdnpidobabaaGreatQc54
import Derived.Test.YtgjkdnpidobabaaGreatQc05
import Derived.Shelf.SlIterI.Sorted
import Derived.Shelf.SlIterI.Nil
import Derived.Shelf.AbstractIn
import Derived.OwnWalkIn
import Derived.TacticsInMore
set_option linter.unusedSimpArgs false
set_option linter.unusedSectionVars false
set_option linter.unusedVariables false
namespace Go.Proofs.YtgjkdnpidobabaaGreat
open Go.RowKit Go.Shelf Go.Maps Go.Sort
set_option linter.unusedVariables false

theorem MapK.permI {w : World} {g c : Nat} {L : Int → Option Value} (h : MapK EI w g c L) {js : List Int} (hn : js.Nodup) (hm : ∀ x, x ∈ js ↔ L x ≠ none) : ∃ D, w.ownsMap Tryz.prog 3 selfR g js.length D ∧ Maps.size D = js.length ∧ js.Perm (intKeys D) := by
  obtain ⟨D, h1, h2, h3, h4⟩ := h.tight hn hm
  obtain ⟨es, rfl, hp, hk, ht⟩ := ownK_held h1 EI.K
  obtain ⟨es', he', hko⟩ := h1.keysOf
  obtain rfl : es = es' := by simpa using he'
  have key : ∀ p ∈ es, ∃ x, EI.ok x ∧ p.1 = .int .i64 x := by
    intro p hp'
    obtain ⟨v, hv⟩ := hko p hp'
    obtain ⟨x, hx, _, hl⟩ := EI.inv v p.1 hv
    exact ⟨x, hx, hl⟩
  refine ⟨_, h1, h2, perm_intKeys hp (fun p hp' => ?_) hn (fun x => ?_)⟩
  · obtain ⟨x, _, e⟩ := key p hp'
    exact ⟨x, e⟩
  · constructor
    · intro hx
      have hl := (hm x).1 hx
      have hok := h.ok (x := x) hl
      have e := hasK_look h1 EI.K (.int .i64 x)
      rw [show lookK (.map es) (.int .i64 x) = L x from h3 x hok] at e
      rw [e]
      exact Option.isSome_iff_ne_none.2 hl
    · intro hx
      obtain ⟨p, hp', hs⟩ := List.any_eq_true.1 hx
      obtain ⟨x', hok, e⟩ := key p hp'
      have e2 : p.1 = .int .i64 x := WideAt.sameKey_eq hs
      rw [e] at e2
      injection e2 with _ e2
      subst e2
      have e3 := hasK_look h1 EI.K (.int .i64 x')
      rw [show lookK (.map es) (.int .i64 x') = L x' from h3 x' hok] at e3
      refine (hm x').2 (Option.isSome_iff_ne_none.1 ?_)
      rw [← e3]
      exact hx
def procsM (x : Nat → Option SpX) : List Int := ((List.range 8).filter fun n => (x n).isSome).map fun (n : Nat) => (n : Int)
theorem procsM_nodup (x : Nat → Option SpX) : (procsM x).Nodup := List.pairwise_map.2 ((List.nodup_range.filter _).imp fun h e => h (by omega))
theorem procsM_mem {x : Nat → Option SpX} {X : Nat → Nat} (h8 : ∀ n y, x n = some y → n < 8) (z : Int) : z ∈ procsM x ↔ ptrL x X z ≠ none := by
  unfold procsM
  rw [List.mem_map]
  unfold ptrL
  constructor
  · rintro ⟨n, hn, rfl⟩
    obtain ⟨_, h2⟩ := List.mem_filter.1 hn
    rw [if_pos ⟨by omega, by rw [Int.toNat_natCast]; exact h2⟩]
    simp
  · intro e
    split at e
    · rename_i c
      obtain ⟨y, hy⟩ := Option.isSome_iff_exists.1 c.2
      exact ⟨z.toNat, List.mem_filter.2 ⟨List.mem_range.2 (h8 _ y hy), c.2⟩, Int.toNat_of_nonneg c.1⟩
    · exact absurd rfl e
theorem procsM_sorted {x : Nat → Option SpX} {ss : List Int} (h : ss.Perm (procsM x)) : ss.mergeSort (fun x y => decide (x ≤ y)) = procsM x := by
  have e : ss.mergeSort leI = procsM x := by
    rw [mergeSort_of_perm_i h]
    refine List.mergeSort_of_pairwise ?_
    unfold procsM
    refine List.pairwise_map.2 ((List.pairwise_lt_range.filter _).imp fun {a b} hab => ?_)
    show decide _ = true
    exact decide_eq_true (by omega)
  exact e
theorem procsM_length (x : Nat → Option SpX) : (procsM x).length ≤ 8 := by
  unfold procsM
  rw [List.length_map]
  have := List.length_filter_le (fun n => (x n).isSome) (List.range 8)
  rwa [List.length_range] at this
theorem sorts_anyU (m : Nat) : AnyZI.SortsIn Tryz.prog Tryz.sortedM59_ren Fence.wide m :=
  ⟨fun blk off cap ss W hH hblk hsz => callsIn_wide.2 (Tryz.slices_Sort_int blk off cap ss W hH hblk hsz),
   fun p cap W => callsIn_wide.2 ((sort_nil p cap W).mono (by rintro e w' ⟨rfl, rfl⟩; exact ⟨rfl, rfl⟩))⟩
section
variable (gS : Nat) (a : SpA) (k : SpK) (K : Nat → Prop) (m : SpM) (w : World)
theorem keys_seq (h : SpMem w gS a k K m) : ∃ N, N ≤ 8 ∧ SeqGives Fence.wide 2 Tryz.prog 107 #[.pointer (some ⟨w.heap.size, 0, none⟩)] encZ (fun ss => ss.Perm (procsM m.x)) N (w.alloc (.cells #[.map k.M] 82)) := by
  have h8 := h.x8
  obtain ⟨κ, rfl, h⟩ := h
  obtain ⟨h1, h2, h3, h4⟩ := h.ok .top
  cases hM : k.M with
  | none =>
    have e : procsM m.x = [] := by
      unfold procsM
      rw [List.map_eq_nil_iff, List.filter_eq_nil_iff]
      intro n _
      rw [h3 hM]
      simp
    refine ⟨0, by omega, ?_⟩
    rw [e]
    have := AnyZI.keys_gives_nil (ρ := Tryz.keysM60_ren) { Tryz.keysM60 with } Fence.wide 2 trivial rfl w.heap.size (w.alloc (.cells #[.map none] 82)) (by simp) (by simp)
    intro l J W hW hJ hY h0
    refine (this l J W hW hJ hY h0).mono ?_
    rintro e' w' ⟨q1, xs, rfl, q3⟩
    exact ⟨q1, [], List.Perm.refl _, q3⟩
  | some g =>
    obtain ⟨c, hmk⟩ := h4 g hM
    obtain ⟨D, d1, d2, d3⟩ := hmk.permI (procsM_nodup m.x) (procsM_mem (X := k.X) h8)
    have hbl := d1.lt
    refine ⟨Maps.size D, by rw [d2]; exact procsM_length _, ?_⟩
    have := AnyZI.keys_gives (ρ := Tryz.keysM60_ren) { Tryz.keysM60 with } Fence.wide 2 trivial rfl (by omega) w.heap.size g (procsM m.x).length D (w.alloc (.cells #[.map (some g)] 82)) (by simp) (by simp) (by
      obtain ⟨es, clock, hb, Ft, hs, hD⟩ := d1
      exact ⟨es, clock, (Below.heap_alloc _ _ g hbl).trans hb, Ft, hs, hD⟩)
    intro l J W hW hJ hY h0
    refine (this l J W hW hJ hY h0).mono ?_
    rintro e' w' ⟨q1, xs, q2, q3⟩
    exact ⟨q1, xs, q2.trans d3.symm, q3⟩
set_option maxRecDepth 100000 in
set_option maxHeartbeats 1000000 in
theorem procs_go (h : SpMem w gS a k K m) :
    Calls Tryz.prog 24 #[.pointer (some ⟨gS, 0, none⟩)] w fun e w' => ∃ v, e = .returned v ∧ w'.ownsRow w.heap.size 3 1 v (procsM m.x).length ((procsM m.x).map (fun z => Value.int .i64 z)) ∧ Below w.heap.size w w' := by
  obtain ⟨N, hN, hseq⟩ := keys_seq gS a k K m w h
  have cA : CallsIn Fence.wide 5 Tryz.prog 43 #[.pointer (some ⟨gS, 0, none⟩)] w fun e w' => e = .returned (.map k.M) ∧ w' = w := callsIn_wide.2 (all_sp gS w k.M (h.cells.cell 6))
  refine (callsIn_wide (n := 6)).1 ?_
  have cK : ∀ mb W, CallsIn Fence.wide 5 Tryz.prog 60 #[.map mb] W fun e w' => e = .returned (.func (.func 107) #[] #[.pointer (some ⟨W.heap.size, 0, none⟩)]) ∧ w' = W.alloc (.cells #[.map mb] 82) := fun mb W => AnyZI.keys_in Tryz.keysM60 Fence.wide 5 trivial rfl mb W
  have cS := AnyZI.sorted_in Tryz.sortedM59 Fence.wide 5 trivial trivial trivial trivial rfl (by omega) (sorts_anyU _) (enters_of Tryz.func94 (by kernel_rfl) rfl) 107 #[.pointer (some ⟨w.heap.size, 0, none⟩)] trivial (enters_of Tryz.func107 (by kernel_rfl) rfl) _ _ (Nat.le_trans hN (by unfold maxLen; omega)) (by omega) _ hseq
  change CallsIn _ _ Tryz.prog 59 _ _ _ at cS
  have hfA : Fence.wide.fn 43 := trivial
  have hfK : Fence.wide.fn 60 := trivial
  have hfS : Fence.wide.fn 59 := trivial
  clear hseq h
  refine callsIn_of_wp Tryz.func24 rfl trivial ?_ rfl
  simp only [Tryz.ntmps24, List.size_toArray, List.length_cons, List.length_nil, Nat.reduceAdd, Nat.reduceSub, Array.replicate_succ, Array.replicate_zero, List.push_toArray, List.append_toArray, List.nil_append, List.cons_append]
  gi_wp2_with (first
    | (gi_at_call 43; refine cA.mono ?_; rintro e w' ⟨rfl, hw⟩; subst w')
    | (gi_at_call 60; refine (cK _ _).mono ?_; rintro e w' ⟨rfl, rfl⟩)
    | (gi_at_call 59; refine cS.mono ?_; rintro e w' ⟨v, ss, rfl, hS, hrow, hnil, hb⟩))
  go_ret
  refine ⟨v, rfl, ?_, ((Below.refl _ w).alloc (Nat.le_refl _) _).trans (hb.mono (by simp))⟩
  rw [procsM_sorted hS, hS.length_eq] at hrow
  exact ownsRow_base_a hrow (by simp)
end
end Go.Proofs.YtgjkdnpidobabaaGreat

namespace Go.Proofs.YtgjkdnpidobabaaGreat
open Go.RowKit
set_option linter.unusedVariables false

def procsU (W : UW) : List Int := ((List.range 8).filter fun n => (W.pr n).isSome).map fun (n : Nat) => (n : Int)
theorem space_procs (gS : Nat) (K : Nat → Prop) (W : UW) (nr mv u : Nat) (w : World) (h : SpcMem w gS K W nr mv u) : Calls Tryz.prog 24 #[.pointer (some ⟨gS, 0, none⟩)] w fun e w' => ∃ v, SpPost w gS K v W nr mv u e w' ∧ Its w' w'.heap.size v (procsU W) := by
  obtain ⟨a, k, m, h1, h2⟩ := h
  have e : procsU W = procsM m.x := by
    unfold procsU procsM
    congr 1
    refine List.filter_congr fun n _ => ?_
    rw [h2.sees.pr, Option.isSome_map]
  rw [e]
  refine (procs_go gS a k K m w h1).mono ?_
  rintro e w' ⟨v, rfl, h3, h4⟩
  exact ⟨v, ⟨K, rfl, ⟨a, k, m, h1.fresh h4, h2⟩, fun _ hk => .inl hk, Turns.of_below h4 (Nat.le_refl _)⟩, Its.of_own h3⟩
end Go.Proofs.YtgjkdnpidobabaaGreat

