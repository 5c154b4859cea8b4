/-
  The library's Or of two numbers.
  Conditions: those that each line bears.
-/
import Derived.Test.YtaonpmclkafjdaaGreatQz23
import Derived.Test.YtaonpmclkafjdaaGreatProg
import Derived.LoopN
set_option linter.unusedSimpArgs false
set_option linter.unusedSectionVars false
set_option linter.unusedVariables false
namespace Go.Proofs.YtaonpmclkafjdaaGreat
open Go.RowKit Go.Shelf Go.Lib Go.Sort
set_option linter.unusedVariables false
set_option maxRecDepth 20000 in
set_option maxHeartbeats 1000000 in
theorem or_any (b:Nat) (x y:Int) (W:World) (hx:W.cell? ⟨b,0,none⟩=some (.int .i64 x)) (hy:W.cell? ⟨b,1,none⟩=some (.int .i64 y)) :
    Calls Tryz.prog 111 #[.slice (some ⟨b,0,none⟩) 2 2] W fun e w'=>e=.returned (.int .i64 (orI x y))∧w'=W:=by
  unfold orI
  by_cases c:x=0
  · subst c
    rw[if_pos rfl]
    by_cases c2:y=0
    · subst c2
      go_enter Tryz.func111,Tryz.ntmps111
      go_wp2
      refine wp_loop_rounds 3 ?_
      rw[rounds_succ]
      go_wp2
      rw[rounds_succ]
      go_wp2
      rw[rounds_succ]
      go_wp2
      go_ret
      exact⟨rfl,rfl⟩
    · have t:(y != 0)=true:=by simpa using c2
      go_enter Tryz.func111,Tryz.ntmps111
      go_wp2
      refine wp_loop_rounds 3 ?_
      rw[rounds_succ]
      go_wp2
      rw[rounds_succ]
      go_wp2
      go_ret
      exact⟨rfl,rfl⟩
  · rw[if_neg c]
    have t:(x != 0)=true:=by simpa using c
    go_enter Tryz.func111,Tryz.ntmps111
    go_wp2
    refine wp_loop_rounds 3 ?_
    rw[rounds_succ]
    go_wp2
    go_ret
    exact⟨rfl,rfl⟩
end Go.Proofs.YtaonpmclkafjdaaGreat
