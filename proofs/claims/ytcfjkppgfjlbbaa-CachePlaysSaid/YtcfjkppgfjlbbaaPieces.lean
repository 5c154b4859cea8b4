/-
  A great loop cut into pieces: what a piece of code leaves ('Runs'), how pieces join, and a frame of so many slots as letters. Nothing of the program is named here.
  Conditions: none beside those that each line bears.
-/
import Derived.WalkKit
import Derived.Control
import Derived.Lib.Hide
namespace Go.Proofs.Ytcfjkppgfjlbbaa
open Go.RowKit

/-- The piece c ends, by itself, and leaves R. -/
def Runs (P : Program) (c : Code) (a : Act) (w : World) (R : Act → World → Prop) : Prop := c.wp P (Exit.then R (fun _ _ _ => False)) a w
section
variable {P : Program} {c x y : Code} {a : Act} {w : World} {R R' : Act → World → Prop}
theorem Runs.mono (h : Runs P c a w R) (k : ∀ a w, R a w → R' a w) : Runs P c a w R' :=
  Go.wp_mono h fun e a w he => by
    cases e
    case normal => exact k a w he
    all_goals exact he
theorem Runs.wp {Q : Exit → Act → World → Prop} (h : Runs P c a w R) (k : ∀ a w, R a w → Q .normal a w) : c.wp P Q a w :=
  Go.wp_mono h fun e a w he => by
    cases e
    case normal => exact k a w he
    all_goals exact he.elim
theorem Runs.seq (h : Runs P x a w (fun a w => Runs P y a w R)) : Runs P (.seq x y) a w R := by
  refine wp_seq ?_
  exact Go.wp_mono h fun e a w he => by
    cases e
    case normal => exact he
    all_goals exact he.elim
theorem Runs.block {id : Nat} (h : Runs P c a w R) : Runs P (.block id c) a w R := by
  refine wp_block ?_
  exact Go.wp_mono h fun e a w he => by
    cases e
    case normal => exact he
    all_goals exact he.elim
end

def cA : Code → Code
  | .seq a _ => a
  | .cond _ a _ => a
  | .block _ c => c
  | .loop c => c
  | .scope c => c
  | c => c
def cB : Code → Code
  | .seq _ b => b
  | .cond _ _ b => b
  | c => c
/-- The piece at a path: true: the right one of two, the way of a test that says no. -/
def cAt (c : Code) (p : List Bool) : Code := p.foldl (fun c b => if b then cB c else cA c) c

theorem arr_range (t : Array Value) (n : Nat) (h : t.size = n) : t = ⟨(List.range n).map (fun k => t.getD k undef)⟩ := by
  apply Array.ext
  · simp [h]
  · intro i h1 h2
    simp [h1]
end Go.Proofs.Ytcfjkppgfjlbbaa
