/-
  RamNone answers true for any frame, any place and any bytes, and writes nothing that was there.
  Conditions: none beside the kinds' own ranges.
-/
import Derived.Test.YtlodeejeeldplaaRamAns
namespace Go.Proofs.Ytlodeejeeldplaa
open Go.RowKit
set_option linter.unusedVariables false

set_option maxHeartbeats 400000 in
theorem ramNone_any (f a : Int) (A : Option Addr) (l c : Nat) (w : World) (hl : l ≤ maxLen) :
    Calls Try.prog 5 #[.int .i64 f, .int .i64 a, .slice A l c] w fun e w' => e = .returned (.bool true) ∧ Below w.heap.size w w' := by
  unfold maxLen at hl
  go_enter Try.func5, Try.ntmps5
  go_wp2_with fail
  refine (read_err _ _ _ _ 1 _ (by omega) (piece_nil _ _ _ _)).mono ?_
  rintro e w1 ⟨rfl, rfl⟩
  go_wp2_with fail
  refine (ramAnswers_any _).mono ?_
  rintro e w1 ⟨rfl, hb1⟩
  have HB1 := Lib.hid hb1
  clear hb1
  go_wp2_with fail
  refine (write_err _ _ _ _ _ _ 1 _ (by omega) (piece_nil _ _ _ _)).mono ?_
  rintro e w2 ⟨rfl, rfl⟩
  go_wp2_with fail
  refine (copy_none1 _ _ _ _ (has_nil _ _)).mono ?_
  rintro e w2 ⟨rfl, rfl⟩
  go_wp2_with fail
  refine (zero_err _ _ 1 _ (by omega) (piece_nil _ _ _ _)).mono ?_
  rintro e w2 ⟨rfl, rfl⟩
  go_wp2_with fail
  refine (poison_none _ _ _ (has_nil _ _)).mono ?_
  rintro e w2 ⟨rfl, rfl⟩
  go_wp2_with fail
  refine (bad_nil _ _).mono ?_
  rintro e w2 ⟨rfl, rfl⟩
  go_wp2_with fail
  refine (frames_nil _).mono ?_
  rintro e w2 ⟨rfl, rfl⟩
  go_wp2
  go_ret
  exact ⟨rfl, HB1.out⟩
end Go.Proofs.Ytlodeejeeldplaa
