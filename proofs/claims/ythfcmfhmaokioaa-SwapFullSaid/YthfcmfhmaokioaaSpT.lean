/-
  The places of a set, sorted, as the program asks for them: SortedFunc over Keys; Of.
  Conditions: none beside those that each line bears.
-/
import Derived.Test.YthfcmfhmaokioaaSpS
namespace Go.Proofs.Ythfcmfhmaokioaa
open Go.RowKit Go.Shelf Go.Lib Go.Sort
set_option linter.unusedVariables false

set_option maxHeartbeats 1000000 in
theorem collectP_any {n : Nat} (hn : 4 ≤ n) (g : Nat) (lb : Array Value) (eg : ∀ args w, (callFunc g args).run Try.prog w = .ok (.enter g args) w) (S : List Pl → Prop) (N : Nat) (hN : N ≤ 1000000) (w : World)
    (hseq : SeqStopsK Fence.wide (n - 1 - 1) Try.prog g lb (fun p => #[encP p]) KeepsWalks S (fun _ => True) N w) (hSN : ∀ ss, S ss → ss.length ≤ N) :
    CallsIn Fence.wide n Try.prog 31 #[.func (.func g) #[] lb] w fun e w' => ∃ (v : Value) (ss : List Pl), e = .returned v ∧ S ss ∧ w'.ownsRow w.heap.size 29 2 v ss.length (flatP ss) ∧ (v = .slice none 0 0 ↔ ss = []) ∧ Below w.heap.size w w' := by
  have hA := appendP_any (n := n - 1) (by omega) g lb eg S N hN w hseq hSN
  have hfA : Fence.wide.fn 35 := trivial
  have h1 : 1 ≤ n := by omega
  refine callsIn_of_wp Try.func31 rfl trivial ?_ rfl
  simp only [Try.ntmps31, List.size_toArray, List.length_cons, List.length_nil, Nat.reduceAdd, Nat.reduceSub, Array.replicate_succ, Array.replicate_zero, List.push_toArray, List.append_toArray, List.nil_append, List.cons_append]
  gi_wp2_with (gi_at_call 35; refine hA.mono ?_; rintro e w' ⟨v, ss, rfl, hS, hrow, hnil, hb⟩)
  go_ret
  exact ⟨v, ss, rfl, hS, hrow, hnil, hb⟩
set_option maxRecDepth 100000 in
set_option maxHeartbeats 2000000 in
theorem sortedP_any {n : Nat} (hn : 5 ≤ n) (g : Nat) (lb : Array Value) (eg : ∀ args w, (callFunc g args).run Try.prog w = .ok (.enter g args) w) (S : List Pl → Prop) (N : Nat) (hN : N ≤ 1000000) (w : World)
    (hseq : SeqStopsK Fence.wide (n - 1 - 1 - 1) Try.prog g lb (fun p => #[encP p]) KeepsWalks S (fun _ => True) N w) (hSN : ∀ ss, S ss → ss.length ≤ N) :
    CallsIn Fence.wide n Try.prog 21 #[.func (.func g) #[] lb, .func (.func 23) #[] #[]] w fun e w' => ∃ (v : Value) (ss : List Pl), e = .returned v ∧ S ss ∧ w'.ownsRow w.heap.size 29 2 v ss.length (flatP (srtd ss)) ∧ Below w.heap.size w w' := by
  have hC := collectP_any (n := n - 1) (by omega) g lb eg S N hN w hseq hSN
  have hfC : Fence.wide.fn 31 := trivial
  have hfS : Fence.wide.fn 32 := trivial
  have h1 : 1 ≤ n := by omega
  refine callsIn_of_wp Try.func21 rfl trivial ?_ rfl
  simp only [Try.ntmps21, List.size_toArray, List.length_cons, List.length_nil, Nat.reduceAdd, Nat.reduceSub, Array.replicate_succ, Array.replicate_zero, List.push_toArray, List.append_toArray, List.nil_append, List.cons_append]
  gi_wp2_with (gi_at_call 31; refine hC.mono ?_; rintro e W ⟨v, ss, rfl, hS, hrow, hnil, hb⟩)
  by_cases c : ss = []
  · subst c
    obtain rfl := hnil.2 rfl
    have cS : CallsIn Fence.wide (n - 1) Try.prog 32 #[.slice none 0 0, .func (.func 23) #[] #[]] W fun e w' => e = .returned (.tuple #[]) ∧ w' = W :=
      callsIn_wide.2 (AnyF.slices_SortFunc_none Try.sortF32 none 0 _ W)
    gi_wp2_with (gi_at_call 32; refine cS.mono ?_; rintro e w' ⟨rfl, rfl⟩)
    go_ret
    refine ⟨.slice none 0 0, [], rfl, hS, ?_, hb⟩
    rw [show srtd [] = [] from by simp [srtd]]
    exact hrow
  · rcases hrow.2 with ⟨hv, _⟩ | ⟨gb, cap, cur, rfl, hbase, hgb, r1, r2, r3, r4⟩
    · exact absurd (hnil.1 hv) c
    · have cS := callsIn_wide (n := n - 1).2 (sortP_any gb cap _ ss W hrow (Nat.le_trans (hSN ss hS) hN))
      clear hgb r1 r2 r3 r4
      gi_wp2_with (gi_at_call 32; refine cS.mono ?_; rintro e w' ⟨rfl, hr2, hg2⟩)
      go_ret
      exact ⟨_, ss, rfl, hS, hr2, hb.grown hg2 hb.size (fun j hj => by cases hj; exact hbase)⟩
set_option maxHeartbeats 1000000 in
theorem keys_fn (mb : Option Nat) (n : Nat) (w : World) : CallsIn Fence.wide n Try.prog 22 #[.map mb] w fun e w' => e = .returned (.func (.func 33) #[] #[.pointer (some ⟨w.heap.size, 0, none⟩)]) ∧ w' = w.alloc (.cells #[.map mb] 49) := by
  refine callsIn_of_wp Try.func22 rfl trivial ?_ rfl
  simp only [Try.ntmps22, List.size_toArray, List.length_cons, List.length_nil, Nat.reduceAdd, Nat.reduceSub, Array.replicate_succ, Array.replicate_zero, List.push_toArray, List.append_toArray, List.nil_append, List.cons_append]
  gi_wp2
  go_ret
  exact ⟨rfl, rfl⟩
end Go.Proofs.Ythfcmfhmaokioaa
