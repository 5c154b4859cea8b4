/-
  The library's sort of no integers: nothing is done.
  Conditions: none.
-/
import Derived.Test.YtgbkpcmgfjdhdaaBas
import Derived.Test.YtgbkpcmgfjdhdaaProg
namespace Go.Proofs.Ytgbkpcmgfjdhdaa
open Go.RowKit
set_option linter.unusedVariables false
set_option maxRecDepth 100000 in
set_option maxHeartbeats 1000000 in
theorem ins_nil (p : Option Addr) (c : Nat) (w : World) : Calls Try.prog 34 #[.slice p 0 c, .int .i64 0, .int .i64 0] w fun e w' => e = .returned (.tuple #[]) ∧ w = w' := by
  go_enter Try.func34, Try.ntmps34
  go_wp2
  refine wp_loop_rounds 1 ?_
  rw [rounds_succ]
  go_wp2
  go_end0
  exact ⟨rfl, rfl⟩
set_option maxRecDepth 100000 in
set_option maxHeartbeats 1000000 in
theorem pdq_nil (p : Option Addr) (c : Nat) (z : Int) (w : World) : Calls Try.prog 28 #[.slice p 0 c, .int .i64 0, .int .i64 0, .int .i64 z] w fun e w' => e = .returned (.tuple #[]) ∧ w = w' := by
  go_enter Try.func28, Try.ntmps28
  go_wp2
  refine wp_loop_rounds 1 ?_
  rw [rounds_succ]
  go_wp2_with fail
  refine (ins_nil p c w).mono ?_
  rintro e w' ⟨rfl, rfl⟩
  go_wp2
  (try rw [Exit.noGoto_ret])
  first
    | refine bodyPost_ret (results_none rfl _ _ _) rfl ?_
    | go_end0
  exact ⟨rfl, rfl⟩
set_option maxRecDepth 100000 in
set_option maxHeartbeats 1000000 in
theorem len_nil (w : World) : Calls Try.prog 29 #[.int .u64 0] w fun e w' => ∃ z : Int, e = .returned (.int .i64 z) ∧ w = w' := by
  go_enter Try.func29, Try.ntmps29
  go_wp2
  go_ret
  exact ⟨_, rfl, rfl⟩
set_option maxRecDepth 100000 in
set_option maxHeartbeats 1000000 in
theorem sort_nil (p : Option Addr) (c : Nat) (w : World) : Calls Try.prog 22 #[.slice p 0 c] w fun e w' => e = .returned (.tuple #[]) ∧ w = w' := by
  go_enter Try.func22, Try.ntmps22
  go_wp2_with (first
    | (go_at_call 29; refine (len_nil _).mono ?_; rintro e w' ⟨z, rfl, rfl⟩)
    | (go_at_call 28; refine (pdq_nil _ _ _ _).mono ?_; rintro e w' ⟨rfl, rfl⟩))
  (try rw [Exit.noGoto_ret])
  first
    | refine bodyPost_ret (results_none rfl _ _ _) rfl ?_
    | go_end0
  exact ⟨rfl, rfl⟩
end Go.Proofs.Ytgbkpcmgfjdhdaa
