/-
  The library's sort of no integers: nothing is done.
  Conditions: none.
-/
import Derived.Test.YtfnegbcpiejdaabBas
import Derived.Test.YtfnegbcpiejdaabProg
namespace Go.Proofs.Ytfnegbcpiejdaab
open Go.RowKit
set_option linter.unusedVariables false
set_option maxRecDepth 100000 in
set_option maxHeartbeats 1000000 in
theorem ins_nil (p : Option Addr) (c : Nat) (w : World) : Calls Try.prog 83 #[.slice p 0 c, .int .i64 0, .int .i64 0] w fun e w' => e = .returned (.tuple #[]) ∧ w = w' := by
  go_enter Try.func83, Try.ntmps83
  go_wp2
  refine wp_loop_rounds 1 ?_
  rw [rounds_succ]
  go_wp2
  go_end0
  exact ⟨rfl, rfl⟩
set_option maxRecDepth 100000 in
set_option maxHeartbeats 1000000 in
theorem pdq_nil (p : Option Addr) (c : Nat) (z : Int) (w : World) : Calls Try.prog 70 #[.slice p 0 c, .int .i64 0, .int .i64 0, .int .i64 z] w fun e w' => e = .returned (.tuple #[]) ∧ w = w' := by
  go_enter Try.func70, Try.ntmps70
  go_wp2
  refine wp_loop_rounds 1 ?_
  rw [rounds_succ]
  go_wp2_with fail
  refine (ins_nil p c w).mono ?_
  rintro e w' ⟨rfl, rfl⟩
  go_wp2
  (try rw [Exit.noGoto_ret])
  first
    | refine bodyPost_ret (results_none rfl _ _ _) rfl ?_
    | go_end0
  exact ⟨rfl, rfl⟩
set_option maxRecDepth 100000 in
set_option maxHeartbeats 1000000 in
theorem len_nil (w : World) : Calls Try.prog 71 #[.int .u64 0] w fun e w' => ∃ z : Int, e = .returned (.int .i64 z) ∧ w = w' := by
  go_enter Try.func71, Try.ntmps71
  go_wp2
  go_ret
  exact ⟨_, rfl, rfl⟩
set_option maxRecDepth 100000 in
set_option maxHeartbeats 1000000 in
theorem sort_nil (p : Option Addr) (c : Nat) (w : World) : Calls Try.prog 54 #[.slice p 0 c] w fun e w' => e = .returned (.tuple #[]) ∧ w = w' := by
  go_enter Try.func54, Try.ntmps54
  go_wp2_with (first
    | (go_at_call 71; refine (len_nil _).mono ?_; rintro e w' ⟨z, rfl, rfl⟩)
    | (go_at_call 70; refine (pdq_nil _ _ _ _).mono ?_; rintro e w' ⟨rfl, rfl⟩))
  (try rw [Exit.noGoto_ret])
  first
    | refine bodyPost_ret (results_none rfl _ _ _) rfl ?_
    | go_end0
  exact ⟨rfl, rfl⟩
end Go.Proofs.Ytfnegbcpiejdaab
