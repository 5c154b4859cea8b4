/-
  No cell of these rows narrows 'for every input' (looked for: loops, veiled, ifaces, maps, wideKeys, modest, calm, conditions, laid).
  DERIVED. THE GIVEN ROWS OF THIS SEAT. 4 by the template 'for every input the law returns true; each argument reads behind the call as it read before'; 0 by the template 'total and deterministic' (their statements: YtgbkpcmgfjdhdaaTotals.lean).
  GIVEN WITH THE SEED: the statements are not yours to turn. If you find one false, say at which input.
  Laid BY PROGRAM, IN A SANDBOX (cutbox-rows.mjs): the forced cells as the released guide's own fill.sh prints them over the translation 6a21d0bb8caba558… (all of the seat's roots in one cut). By AI agents, Wed Nov 11 2026. No macro, syntax, notation, axiom, sorry.
-/
import Derived.Test.YtgbkpcmgfjdhdaaChecked
import GoSem.Claim
import GoSem.ClaimJoined
import GoSem.ClaimMapViews
import Derived.JoinedTies
import Derived.KernelRfl
namespace Go.Proofs.Ytgbkpcmgfjdhdaa
/- THE CELL 'sum', in the pinned program and in every row, IS THE sha256 OF THE DUMP (.gsa) THAT YtgbkpcmgfjdhdaaProg.lean LOADS. Nothing in Lean hashes anything: it is a label: what it is worth is what the hold of that sum in a sandbox is worth. -/
noncomputable def Try.pinned : Pinned := { name := "ytgbkpcmgfjdhdaa", sum := "6a21d0bb8caba55899276c395a5326b004e6e9fd396f75f87ecd09eb9392136c", checked := Try.checked }
namespace Rows
def none {H : Type} : Left H := { results := [], args := [] }

/-- 'headlandlaw13.BackPlays': WHATEVER THE INPUT: true; the input reads as it did. -/
def backPlaysSpec : ChangeSpec := { name := "backPlays", fn := fun _ => fun
  | [d1, d2] => { results := [.lit (.bool true)], args := [d1, d2] }
  | _ => none }
def backPlaysRow : OpenClaim := { program := "ytgbkpcmgfjdhdaa", sum := "6a21d0bb8caba55899276c395a5326b004e6e9fd396f75f87ecd09eb9392136c", func := "headland/headlandlaw13.BackPlays", spec := "backPlays", unfollowed := true, recurses := true, plainKeys := false, apart := false }
def BackPlaysSaid : Prop := backPlaysRow.holds Try.pinned (OpenSpec.ofChange backPlaysSpec)

/-- ITS FALSE NEIGHBOUR: 'it returns false'. Refute it at one input. -/
def backPlaysWrong : ChangeSpec := { name := "backPlays", fn := fun _ => fun
  | [d1, d2] => { results := [.lit (.bool false)], args := [d1, d2] }
  | _ => none }
def BackPlaysWrongFalsely : Prop := backPlaysRow.holds Try.pinned (OpenSpec.ofChange backPlaysWrong)

/-- 'headlandlaw13.BackNone': WHATEVER THE INPUT: true; the input reads as it did. -/
def backNoneSpec : ChangeSpec := { name := "backNone", fn := fun _ => fun
  | [d1, d2] => { results := [.lit (.bool true)], args := [d1, d2] }
  | _ => none }
def backNoneRow : OpenClaim := { program := "ytgbkpcmgfjdhdaa", sum := "6a21d0bb8caba55899276c395a5326b004e6e9fd396f75f87ecd09eb9392136c", func := "headland/headlandlaw13.BackNone", spec := "backNone", unfollowed := true, recurses := true, plainKeys := false, apart := false }
def BackNoneSaid : Prop := backNoneRow.holds Try.pinned (OpenSpec.ofChange backNoneSpec)

/-- ITS FALSE NEIGHBOUR: 'it returns false'. Refute it at one input. -/
def backNoneWrong : ChangeSpec := { name := "backNone", fn := fun _ => fun
  | [d1, d2] => { results := [.lit (.bool false)], args := [d1, d2] }
  | _ => none }
def BackNoneWrongFalsely : Prop := backNoneRow.holds Try.pinned (OpenSpec.ofChange backNoneWrong)

/-- 'headlandlaw13.BackOnce': WHATEVER THE INPUT: true; the input reads as it did. -/
def backOnceSpec : ChangeSpec := { name := "backOnce", fn := fun _ => fun
  | [d1, d2, d3] => { results := [.lit (.bool true)], args := [d1, d2, d3] }
  | _ => none }
def backOnceRow : OpenClaim := { program := "ytgbkpcmgfjdhdaa", sum := "6a21d0bb8caba55899276c395a5326b004e6e9fd396f75f87ecd09eb9392136c", func := "headland/headlandlaw13.BackOnce", spec := "backOnce", unfollowed := true, recurses := true, plainKeys := false, apart := false }
def BackOnceSaid : Prop := backOnceRow.holds Try.pinned (OpenSpec.ofChange backOnceSpec)

/-- ITS FALSE NEIGHBOUR: 'it returns false'. Refute it at one input. -/
def backOnceWrong : ChangeSpec := { name := "backOnce", fn := fun _ => fun
  | [d1, d2, d3] => { results := [.lit (.bool false)], args := [d1, d2, d3] }
  | _ => none }
def BackOnceWrongFalsely : Prop := backOnceRow.holds Try.pinned (OpenSpec.ofChange backOnceWrong)

/-- 'headlandlaw13.BackMoves': WHATEVER THE INPUT: true; the input reads as it did. -/
def backMovesSpec : ChangeSpec := { name := "backMoves", fn := fun _ => fun
  | [d1, d2] => { results := [.lit (.bool true)], args := [d1, d2] }
  | _ => none }
def backMovesRow : OpenClaim := { program := "ytgbkpcmgfjdhdaa", sum := "6a21d0bb8caba55899276c395a5326b004e6e9fd396f75f87ecd09eb9392136c", func := "headland/headlandlaw13.BackMoves", spec := "backMoves", unfollowed := true, recurses := true, plainKeys := false, apart := false }
def BackMovesSaid : Prop := backMovesRow.holds Try.pinned (OpenSpec.ofChange backMovesSpec)

/-- ITS FALSE NEIGHBOUR: 'it returns false'. Refute it at one input. -/
def backMovesWrong : ChangeSpec := { name := "backMoves", fn := fun _ => fun
  | [d1, d2] => { results := [.lit (.bool false)], args := [d1, d2] }
  | _ => none }
def BackMovesWrongFalsely : Prop := backMovesRow.holds Try.pinned (OpenSpec.ofChange backMovesWrong)

/- THE SECOND FORM. 'bulk': how many values and letters a reading holds, each counted each time it is reached (what is shared counts as often as it is met; a slice's spare places count too). A statement '..UptoSaid' is the law's where the arguments, and the package variables that the reading takes, are together of bulk at most 1048576: NARROWER than '..Said'. Prove '..Said' where nothing that the law and all that it calls make is longer than what came in: it says more and counts as full. Else prove '..UptoSaid'. A law counts once. -/
mutual
def uptoBulk {H : Type} : DataW H → Nat
  | .lit (.string bytes) => bytes.length + 1
  | .lit _ => 1
  | .nil => 1
  | .ptr d => uptoBulk d + 1
  | .slice elems spare => uptoBulkAll elems + uptoBulkAll spare + 1
  | .agg parts => uptoBulkAll parts + 1
  | .iface _ d => uptoBulk d + 1
  | .map entries => uptoBulkEntries entries + 1
  | .held _ => 1
def uptoBulkAll {H : Type} : List (DataW H) → Nat
  | [] => 0
  | d :: r => uptoBulk d + uptoBulkAll r
def uptoBulkEntries {H : Type} : List (Lit × DataW H) → Nat
  | [] => 0
  | x :: r => uptoBulkEntry x + uptoBulkEntries r
def uptoBulkEntry {H : Type} : Lit × DataW H → Nat
  | (.string bytes, d) => bytes.length + uptoBulk d + 1
  | (_, d) => uptoBulk d + 1
 end
def uptoSmall : (H : Type) → List (DataW H) → Bool := fun _ ds => decide (uptoBulkAll ds ≤ 1048576)
def OpenSpec.upto (s : _root_.Go.ChangeSpec) : _root_.Go.OpenSpec := { _root_.Go.OpenSpec.ofChange s with cond := some uptoSmall }

/-- 'headlandlaw13.BackPlays', WHERE WHAT IT READS IS OF BULK AT MOST 1048576: true; the input reads as it did. -/
def backPlaysUptoRow : OpenClaim := { program := "ytgbkpcmgfjdhdaa", sum := "6a21d0bb8caba55899276c395a5326b004e6e9fd396f75f87ecd09eb9392136c", func := "headland/headlandlaw13.BackPlays", spec := "backPlays", unfollowed := true, recurses := true, plainKeys := false, apart := false, narrowed := true }
def BackPlaysUptoSaid : Prop := backPlaysUptoRow.holds Try.pinned (OpenSpec.upto backPlaysSpec)

/-- 'headlandlaw13.BackNone', WHERE WHAT IT READS IS OF BULK AT MOST 1048576: true; the input reads as it did. -/
def backNoneUptoRow : OpenClaim := { program := "ytgbkpcmgfjdhdaa", sum := "6a21d0bb8caba55899276c395a5326b004e6e9fd396f75f87ecd09eb9392136c", func := "headland/headlandlaw13.BackNone", spec := "backNone", unfollowed := true, recurses := true, plainKeys := false, apart := false, narrowed := true }
def BackNoneUptoSaid : Prop := backNoneUptoRow.holds Try.pinned (OpenSpec.upto backNoneSpec)

/-- 'headlandlaw13.BackOnce', WHERE WHAT IT READS IS OF BULK AT MOST 1048576: true; the input reads as it did. -/
def backOnceUptoRow : OpenClaim := { program := "ytgbkpcmgfjdhdaa", sum := "6a21d0bb8caba55899276c395a5326b004e6e9fd396f75f87ecd09eb9392136c", func := "headland/headlandlaw13.BackOnce", spec := "backOnce", unfollowed := true, recurses := true, plainKeys := false, apart := false, narrowed := true }
def BackOnceUptoSaid : Prop := backOnceUptoRow.holds Try.pinned (OpenSpec.upto backOnceSpec)

/-- 'headlandlaw13.BackMoves', WHERE WHAT IT READS IS OF BULK AT MOST 1048576: true; the input reads as it did. -/
def backMovesUptoRow : OpenClaim := { program := "ytgbkpcmgfjdhdaa", sum := "6a21d0bb8caba55899276c395a5326b004e6e9fd396f75f87ecd09eb9392136c", func := "headland/headlandlaw13.BackMoves", spec := "backMoves", unfollowed := true, recurses := true, plainKeys := false, apart := false, narrowed := true }
def BackMovesUptoSaid : Prop := backMovesUptoRow.holds Try.pinned (OpenSpec.upto backMovesSpec)

end Rows
end Go.Proofs.Ytgbkpcmgfjdhdaa
