/-
  No cell of these rows narrows 'for every input' (looked for: loops, veiled, ifaces, maps, wideKeys, modest, calm, conditions, laid).
  DERIVED. THE GIVEN ROWS OF THIS SEAT. 6 by the template 'for every input the law returns true; each argument reads behind the call as it read before'; 0 by the template 'total and deterministic' (their statements: YtgjkdnpidobabaaGreatTotals.lean).
  GIVEN WITH THE SEED: the statements are not yours to turn. If you find one false, say at which input.
  Laid BY PROGRAM, IN A SANDBOX (cutbox-rows.mjs): the forced cells as the released guide's own fill.sh prints them over the translation 056ade8d3380ce88… (all of the seat's roots in one cut). By AI agents, Wed Nov 11 2026. No macro, syntax, notation, axiom, sorry.
-/
import Derived.Test.YtgjkdnpidobabaaGreatChecked
import GoSem.Claim
import GoSem.ClaimJoined
import GoSem.ClaimMapViews
import Derived.JoinedTies
import Derived.KernelRfl
namespace Go.Proofs.YtgjkdnpidobabaaGreat
/- THE CELL 'sum', in the pinned program and in every row, IS THE sha256 OF THE DUMP (.gsa) THAT YtgjkdnpidobabaaGreatProg.lean LOADS. Nothing in Lean hashes anything: it is a label: what it is worth is what the hold of that sum in a sandbox is worth. -/
noncomputable def Tryz.pinned : Pinned := { name := "ytgjkdnpidobabaagreat", sum := "056ade8d3380ce88a4a3158515e48a8525599f27e94a599091830d224343b0ca", checked := Tryz.checked }
namespace Rows
def none {H : Type} : Left H := { results := [], args := [] }

/-- 'headlandlaw19.SpaceFork': WHATEVER THE INPUT: true; the input reads as it did. -/
def spaceForkSpec : ChangeSpec := { name := "spaceFork", fn := fun _ => fun
  | [d1, d2, d3, d4] => { results := [.lit (.bool true)], args := [d1, d2, d3, d4] }
  | _ => none }
def spaceForkRow : OpenClaim := { program := "ytgjkdnpidobabaagreat", sum := "056ade8d3380ce88a4a3158515e48a8525599f27e94a599091830d224343b0ca", func := "headland/headlandlaw19.SpaceFork", spec := "spaceFork", unfollowed := true, recurses := true, plainKeys := false, apart := false }
def SpaceForkSaid : Prop := spaceForkRow.holds Tryz.pinned (OpenSpec.ofChange spaceForkSpec)

/-- ITS FALSE NEIGHBOUR: 'it returns false'. Refute it at one input. -/
def spaceForkWrong : ChangeSpec := { name := "spaceFork", fn := fun _ => fun
  | [d1, d2, d3, d4] => { results := [.lit (.bool false)], args := [d1, d2, d3, d4] }
  | _ => none }
def SpaceForkWrongFalsely : Prop := spaceForkRow.holds Tryz.pinned (OpenSpec.ofChange spaceForkWrong)

/-- 'headlandlaw19.SpaceZero': WHATEVER THE INPUT: true; the input reads as it did. -/
def spaceZeroSpec : ChangeSpec := { name := "spaceZero", fn := fun _ => fun
  | [d1, d2, d3] => { results := [.lit (.bool true)], args := [d1, d2, d3] }
  | _ => none }
def spaceZeroRow : OpenClaim := { program := "ytgjkdnpidobabaagreat", sum := "056ade8d3380ce88a4a3158515e48a8525599f27e94a599091830d224343b0ca", func := "headland/headlandlaw19.SpaceZero", spec := "spaceZero", unfollowed := true, recurses := true, plainKeys := false, apart := false }
def SpaceZeroSaid : Prop := spaceZeroRow.holds Tryz.pinned (OpenSpec.ofChange spaceZeroSpec)

/-- ITS FALSE NEIGHBOUR: 'it returns false'. Refute it at one input. -/
def spaceZeroWrong : ChangeSpec := { name := "spaceZero", fn := fun _ => fun
  | [d1, d2, d3] => { results := [.lit (.bool false)], args := [d1, d2, d3] }
  | _ => none }
def SpaceZeroWrongFalsely : Prop := spaceZeroRow.holds Tryz.pinned (OpenSpec.ofChange spaceZeroWrong)

/-- 'headlandlaw19.SpaceDenied': WHATEVER THE INPUT: true; the input reads as it did. -/
def spaceDeniedSpec : ChangeSpec := { name := "spaceDenied", fn := fun _ => fun
  | [d1, d2, d3] => { results := [.lit (.bool true)], args := [d1, d2, d3] }
  | _ => none }
def spaceDeniedRow : OpenClaim := { program := "ytgjkdnpidobabaagreat", sum := "056ade8d3380ce88a4a3158515e48a8525599f27e94a599091830d224343b0ca", func := "headland/headlandlaw19.SpaceDenied", spec := "spaceDenied", unfollowed := true, recurses := true, plainKeys := false, apart := false }
def SpaceDeniedSaid : Prop := spaceDeniedRow.holds Tryz.pinned (OpenSpec.ofChange spaceDeniedSpec)

/-- ITS FALSE NEIGHBOUR: 'it returns false'. Refute it at one input. -/
def spaceDeniedWrong : ChangeSpec := { name := "spaceDenied", fn := fun _ => fun
  | [d1, d2, d3] => { results := [.lit (.bool false)], args := [d1, d2, d3] }
  | _ => none }
def SpaceDeniedWrongFalsely : Prop := spaceDeniedRow.holds Tryz.pinned (OpenSpec.ofChange spaceDeniedWrong)

/-- 'headlandlaw19.SpaceShares': WHATEVER THE INPUT: true; the input reads as it did. -/
def spaceSharesSpec : ChangeSpec := { name := "spaceShares", fn := fun _ => fun
  | [d1, d2, d3] => { results := [.lit (.bool true)], args := [d1, d2, d3] }
  | _ => none }
def spaceSharesRow : OpenClaim := { program := "ytgjkdnpidobabaagreat", sum := "056ade8d3380ce88a4a3158515e48a8525599f27e94a599091830d224343b0ca", func := "headland/headlandlaw19.SpaceShares", spec := "spaceShares", unfollowed := true, recurses := true, plainKeys := false, apart := false }
def SpaceSharesSaid : Prop := spaceSharesRow.holds Tryz.pinned (OpenSpec.ofChange spaceSharesSpec)

/-- ITS FALSE NEIGHBOUR: 'it returns false'. Refute it at one input. -/
def spaceSharesWrong : ChangeSpec := { name := "spaceShares", fn := fun _ => fun
  | [d1, d2, d3] => { results := [.lit (.bool false)], args := [d1, d2, d3] }
  | _ => none }
def SpaceSharesWrongFalsely : Prop := spaceSharesRow.holds Tryz.pinned (OpenSpec.ofChange spaceSharesWrong)

/-- 'headlandlaw19.SpaceNone': WHATEVER THE INPUT: true; the input reads as it did. -/
def spaceNoneSpec : ChangeSpec := { name := "spaceNone", fn := fun _ => fun
  | [d1, d2] => { results := [.lit (.bool true)], args := [d1, d2] }
  | _ => none }
def spaceNoneRow : OpenClaim := { program := "ytgjkdnpidobabaagreat", sum := "056ade8d3380ce88a4a3158515e48a8525599f27e94a599091830d224343b0ca", func := "headland/headlandlaw19.SpaceNone", spec := "spaceNone", unfollowed := true, recurses := true, plainKeys := false, apart := false }
def SpaceNoneSaid : Prop := spaceNoneRow.holds Tryz.pinned (OpenSpec.ofChange spaceNoneSpec)

/-- ITS FALSE NEIGHBOUR: 'it returns false'. Refute it at one input. -/
def spaceNoneWrong : ChangeSpec := { name := "spaceNone", fn := fun _ => fun
  | [d1, d2] => { results := [.lit (.bool false)], args := [d1, d2] }
  | _ => none }
def SpaceNoneWrongFalsely : Prop := spaceNoneRow.holds Tryz.pinned (OpenSpec.ofChange spaceNoneWrong)

/-- 'headlandlaw19.SpaceSignals': WHATEVER THE INPUT: true; the input reads as it did. -/
def spaceSignalsSpec : ChangeSpec := { name := "spaceSignals", fn := fun _ => fun
  | [d] => { results := [.lit (.bool true)], args := [d] }
  | _ => none }
def spaceSignalsRow : OpenClaim := { program := "ytgjkdnpidobabaagreat", sum := "056ade8d3380ce88a4a3158515e48a8525599f27e94a599091830d224343b0ca", func := "headland/headlandlaw19.SpaceSignals", spec := "spaceSignals", unfollowed := true, recurses := true, plainKeys := false, apart := false }
def SpaceSignalsSaid : Prop := spaceSignalsRow.holds Tryz.pinned (OpenSpec.ofChange spaceSignalsSpec)

/-- ITS FALSE NEIGHBOUR: 'it returns false'. Refute it at one input. -/
def spaceSignalsWrong : ChangeSpec := { name := "spaceSignals", fn := fun _ => fun
  | [d] => { results := [.lit (.bool false)], args := [d] }
  | _ => none }
def SpaceSignalsWrongFalsely : Prop := spaceSignalsRow.holds Tryz.pinned (OpenSpec.ofChange spaceSignalsWrong)

/- THE SECOND FORM. 'bulk': how many values and letters a reading holds, each counted each time it is reached (what is shared counts as often as it is met; a slice's spare places count too). A statement '..UptoSaid' is the law's where the arguments, and the package variables that the reading takes, are together of bulk at most 1048576: NARROWER than '..Said'. Prove '..Said' where nothing that the law and all that it calls make is longer than what came in: it says more and counts as full. Else prove '..UptoSaid'. A law counts once. -/
mutual
def uptoBulk {H : Type} : DataW H → Nat
  | .lit (.string bytes) => bytes.length + 1
  | .lit _ => 1
  | .nil => 1
  | .ptr d => uptoBulk d + 1
  | .slice elems spare => uptoBulkAll elems + uptoBulkAll spare + 1
  | .agg parts => uptoBulkAll parts + 1
  | .iface _ d => uptoBulk d + 1
  | .map entries => uptoBulkEntries entries + 1
  | .held _ => 1
def uptoBulkAll {H : Type} : List (DataW H) → Nat
  | [] => 0
  | d :: r => uptoBulk d + uptoBulkAll r
def uptoBulkEntries {H : Type} : List (Lit × DataW H) → Nat
  | [] => 0
  | x :: r => uptoBulkEntry x + uptoBulkEntries r
def uptoBulkEntry {H : Type} : Lit × DataW H → Nat
  | (.string bytes, d) => bytes.length + uptoBulk d + 1
  | (_, d) => uptoBulk d + 1
 end
def uptoSmall : (H : Type) → List (DataW H) → Bool := fun _ ds => decide (uptoBulkAll ds ≤ 1048576)
def OpenSpec.upto (s : _root_.Go.ChangeSpec) : _root_.Go.OpenSpec := { _root_.Go.OpenSpec.ofChange s with cond := some uptoSmall }

/-- 'headlandlaw19.SpaceFork', WHERE WHAT IT READS IS OF BULK AT MOST 1048576: true; the input reads as it did. -/
def spaceForkUptoRow : OpenClaim := { program := "ytgjkdnpidobabaagreat", sum := "056ade8d3380ce88a4a3158515e48a8525599f27e94a599091830d224343b0ca", func := "headland/headlandlaw19.SpaceFork", spec := "spaceFork", unfollowed := true, recurses := true, plainKeys := false, apart := false, narrowed := true }
def SpaceForkUptoSaid : Prop := spaceForkUptoRow.holds Tryz.pinned (OpenSpec.upto spaceForkSpec)

/-- 'headlandlaw19.SpaceZero', WHERE WHAT IT READS IS OF BULK AT MOST 1048576: true; the input reads as it did. -/
def spaceZeroUptoRow : OpenClaim := { program := "ytgjkdnpidobabaagreat", sum := "056ade8d3380ce88a4a3158515e48a8525599f27e94a599091830d224343b0ca", func := "headland/headlandlaw19.SpaceZero", spec := "spaceZero", unfollowed := true, recurses := true, plainKeys := false, apart := false, narrowed := true }
def SpaceZeroUptoSaid : Prop := spaceZeroUptoRow.holds Tryz.pinned (OpenSpec.upto spaceZeroSpec)

/-- 'headlandlaw19.SpaceDenied', WHERE WHAT IT READS IS OF BULK AT MOST 1048576: true; the input reads as it did. -/
def spaceDeniedUptoRow : OpenClaim := { program := "ytgjkdnpidobabaagreat", sum := "056ade8d3380ce88a4a3158515e48a8525599f27e94a599091830d224343b0ca", func := "headland/headlandlaw19.SpaceDenied", spec := "spaceDenied", unfollowed := true, recurses := true, plainKeys := false, apart := false, narrowed := true }
def SpaceDeniedUptoSaid : Prop := spaceDeniedUptoRow.holds Tryz.pinned (OpenSpec.upto spaceDeniedSpec)

/-- 'headlandlaw19.SpaceShares', WHERE WHAT IT READS IS OF BULK AT MOST 1048576: true; the input reads as it did. -/
def spaceSharesUptoRow : OpenClaim := { program := "ytgjkdnpidobabaagreat", sum := "056ade8d3380ce88a4a3158515e48a8525599f27e94a599091830d224343b0ca", func := "headland/headlandlaw19.SpaceShares", spec := "spaceShares", unfollowed := true, recurses := true, plainKeys := false, apart := false, narrowed := true }
def SpaceSharesUptoSaid : Prop := spaceSharesUptoRow.holds Tryz.pinned (OpenSpec.upto spaceSharesSpec)

/-- 'headlandlaw19.SpaceNone', WHERE WHAT IT READS IS OF BULK AT MOST 1048576: true; the input reads as it did. -/
def spaceNoneUptoRow : OpenClaim := { program := "ytgjkdnpidobabaagreat", sum := "056ade8d3380ce88a4a3158515e48a8525599f27e94a599091830d224343b0ca", func := "headland/headlandlaw19.SpaceNone", spec := "spaceNone", unfollowed := true, recurses := true, plainKeys := false, apart := false, narrowed := true }
def SpaceNoneUptoSaid : Prop := spaceNoneUptoRow.holds Tryz.pinned (OpenSpec.upto spaceNoneSpec)

/-- 'headlandlaw19.SpaceSignals', WHERE WHAT IT READS IS OF BULK AT MOST 1048576: true; the input reads as it did. -/
def spaceSignalsUptoRow : OpenClaim := { program := "ytgjkdnpidobabaagreat", sum := "056ade8d3380ce88a4a3158515e48a8525599f27e94a599091830d224343b0ca", func := "headland/headlandlaw19.SpaceSignals", spec := "spaceSignals", unfollowed := true, recurses := true, plainKeys := false, apart := false, narrowed := true }
def SpaceSignalsUptoSaid : Prop := spaceSignalsUptoRow.holds Tryz.pinned (OpenSpec.upto spaceSignalsSpec)

end Rows
end Go.Proofs.YtgjkdnpidobabaaGreat
