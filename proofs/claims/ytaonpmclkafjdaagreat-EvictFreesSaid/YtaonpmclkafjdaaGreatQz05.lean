/-
  The contract of the document's own Next; layer 9's calls and its four statements.
  The contracts of layer 9's calls (sect): Next, Frames, Of.
  Conditions: those that each line bears.
-/
import Derived.Test.YtaonpmclkafjdaaGreatProg
import Derived.Below
import Derived.WalkKit
import Derived.Lib.Hide
import Derived.Deep.LoopGhost
import Derived.BigQuiet
set_option linter.unusedSimpArgs false
set_option linter.unusedSectionVars false
set_option linter.unusedVariables false
namespace Go.Proofs.YtaonpmclkafjdaaGreat
open Go.RowKit
set_option linter.unusedVariables false
end Go.Proofs.YtaonpmclkafjdaaGreat
namespace Go.Proofs.YtaonpmclkafjdaaGreat
open Go.RowKit
def frV (s:Int):Value:=.tuple (if 0≤s∧s < 32 then #[.int .i64 (s * 32),.int .i64 (s * 32+32)] else #[.int .i64 0,.int .i64 0])
def ofV (f:Int):Value:=.tuple (if 0≤f∧f < 1024 then #[.int .i64 (f / 32),.bool true] else #[.int .i64 0,.bool false])
theorem sectFrames_any (s:Int)(w:World):Calls Tryz.prog 122 #[.int .i64 s] w fun e w'=>e=.returned (frV s)∧w=w':=by
  by_cases h1:s < 0
  · have d1:decide (s < 0)=true:=decide_eq_true h1
    unfold frV
    rw[if_neg (by omega)]
    go_enter Tryz.func122,Tryz.ntmps122
    go_wp2
    go_ret2
    exact⟨rfl,rfl⟩
  · have d1:decide (s < 0)=false:=decide_eq_false h1
    by_cases h2:s < 32
    · have d2:decide (32≤s)=false:=decide_eq_false (by omega)
      unfold frV
      rw[if_pos ⟨by omega,h2⟩]
      go_enter Tryz.func122,Tryz.ntmps122
      go_wp2
      go_ret2
      exact⟨rfl,rfl⟩
    · have d2:decide (32≤s)=true:=decide_eq_true (by omega)
      unfold frV
      rw[if_neg (by omega)]
      go_enter Tryz.func122,Tryz.ntmps122
      go_wp2
      go_ret2
      exact⟨rfl,rfl⟩
theorem sectOf_any (f:Int)(w:World):Calls Tryz.prog 134 #[.int .i64 f] w fun e w'=>e=.returned (ofV f)∧w=w':=by
  by_cases h1:f < 0
  · have d1:decide (f < 0)=true:=decide_eq_true h1
    unfold ofV
    rw[if_neg (by omega)]
    go_enter Tryz.func134,Tryz.ntmps134
    go_wp2
    go_ret2
    exact⟨rfl,rfl⟩
  · have d1:decide (f < 0)=false:=decide_eq_false h1
    by_cases h2:f < 1024
    · have d2:decide (1024≤f)=false:=decide_eq_false (by omega)
      unfold ofV
      rw[if_pos ⟨by omega,h2⟩]
      go_enter Tryz.func134,Tryz.ntmps134
      go_wp2
      go_ret2
      exact⟨rfl,rfl⟩
    · have d2:decide (1024≤f)=true:=decide_eq_true (by omega)
      unfold ofV
      rw[if_neg (by omega)]
      go_enter Tryz.func134,Tryz.ntmps134
      go_wp2
      go_ret2
      exact⟨rfl,rfl⟩
end Go.Proofs.YtaonpmclkafjdaaGreat
