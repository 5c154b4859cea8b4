/-
  No cell of these rows narrows 'for every input' (looked for: loops, veiled, ifaces, maps, wideKeys, modest, calm, conditions, laid).
  DERIVED. THE GIVEN ROWS OF THIS SEAT. 5 by the template 'for every input the law returns true; each argument reads behind the call as it read before'; 0 by the template 'total and deterministic' (their statements: YthfcmfhmaokioaaTotals.lean).
  GIVEN WITH THE SEED: the statements are not yours to turn. If you find one false, say at which input.
  Laid BY PROGRAM, IN A SANDBOX (cutbox-rows.mjs): the forced cells as the released guide's own fill.sh prints them over the translation 72e6dd1f9ad6bfcf… (all of the seat's roots in one cut). By AI agents, Wed Nov 11 2026. No macro, syntax, notation, axiom, sorry.
-/
import Derived.Test.YthfcmfhmaokioaaChecked
import GoSem.Claim
import GoSem.ClaimJoined
import GoSem.ClaimMapViews
import Derived.JoinedTies
import Derived.KernelRfl
namespace Go.Proofs.Ythfcmfhmaokioaa
/- THE CELL 'sum', in the pinned program and in every row, IS THE sha256 OF THE DUMP (.gsa) THAT YthfcmfhmaokioaaProg.lean LOADS. Nothing in Lean hashes anything: it is a label: what it is worth is what the hold of that sum in a sandbox is worth. -/
noncomputable def Try.pinned : Pinned := { name := "ythfcmfhmaokioaa", sum := "72e6dd1f9ad6bfcfef1382bd2ac2303b53cc245eb618f305f85b60aec7e9a0ba", checked := Try.checked }
namespace Rows
def none {H : Type} : Left H := { results := [], args := [] }

/-- 'headlandlaw16.SwapPlays': WHATEVER THE INPUT: true; the input reads as it did. -/
def swapPlaysSpec : ChangeSpec := { name := "swapPlays", fn := fun _ => fun
  | [d1, d2] => { results := [.lit (.bool true)], args := [d1, d2] }
  | _ => none }
def swapPlaysRow : OpenClaim := { program := "ythfcmfhmaokioaa", sum := "72e6dd1f9ad6bfcfef1382bd2ac2303b53cc245eb618f305f85b60aec7e9a0ba", func := "headland/headlandlaw16.SwapPlays", spec := "swapPlays", unfollowed := true, recurses := true, plainKeys := false, apart := false }
def SwapPlaysSaid : Prop := swapPlaysRow.holds Try.pinned (OpenSpec.ofChange swapPlaysSpec)

/-- ITS FALSE NEIGHBOUR: 'it returns false'. Refute it at one input. -/
def swapPlaysWrong : ChangeSpec := { name := "swapPlays", fn := fun _ => fun
  | [d1, d2] => { results := [.lit (.bool false)], args := [d1, d2] }
  | _ => none }
def SwapPlaysWrongFalsely : Prop := swapPlaysRow.holds Try.pinned (OpenSpec.ofChange swapPlaysWrong)

/-- 'headlandlaw16.SwapFull': WHATEVER THE INPUT: true; the input reads as it did. -/
def swapFullSpec : ChangeSpec := { name := "swapFull", fn := fun _ => fun
  | [d] => { results := [.lit (.bool true)], args := [d] }
  | _ => none }
def swapFullRow : OpenClaim := { program := "ythfcmfhmaokioaa", sum := "72e6dd1f9ad6bfcfef1382bd2ac2303b53cc245eb618f305f85b60aec7e9a0ba", func := "headland/headlandlaw16.SwapFull", spec := "swapFull", unfollowed := true, recurses := true, plainKeys := false, apart := false }
def SwapFullSaid : Prop := swapFullRow.holds Try.pinned (OpenSpec.ofChange swapFullSpec)

/-- ITS FALSE NEIGHBOUR: 'it returns false'. Refute it at one input. -/
def swapFullWrong : ChangeSpec := { name := "swapFull", fn := fun _ => fun
  | [d] => { results := [.lit (.bool false)], args := [d] }
  | _ => none }
def SwapFullWrongFalsely : Prop := swapFullRow.holds Try.pinned (OpenSpec.ofChange swapFullWrong)

/-- 'headlandlaw16.SwapNone': WHATEVER THE INPUT: true; the input reads as it did. -/
def swapNoneSpec : ChangeSpec := { name := "swapNone", fn := fun _ => fun
  | [d1, d2] => { results := [.lit (.bool true)], args := [d1, d2] }
  | _ => none }
def swapNoneRow : OpenClaim := { program := "ythfcmfhmaokioaa", sum := "72e6dd1f9ad6bfcfef1382bd2ac2303b53cc245eb618f305f85b60aec7e9a0ba", func := "headland/headlandlaw16.SwapNone", spec := "swapNone", unfollowed := true, recurses := true, plainKeys := false, apart := false }
def SwapNoneSaid : Prop := swapNoneRow.holds Try.pinned (OpenSpec.ofChange swapNoneSpec)

/-- ITS FALSE NEIGHBOUR: 'it returns false'. Refute it at one input. -/
def swapNoneWrong : ChangeSpec := { name := "swapNone", fn := fun _ => fun
  | [d1, d2] => { results := [.lit (.bool false)], args := [d1, d2] }
  | _ => none }
def SwapNoneWrongFalsely : Prop := swapNoneRow.holds Try.pinned (OpenSpec.ofChange swapNoneWrong)

/-- 'headlandlaw16.SwapShared': WHATEVER THE INPUT: true; the input reads as it did. -/
def swapSharedSpec : ChangeSpec := { name := "swapShared", fn := fun _ => fun
  | [d] => { results := [.lit (.bool true)], args := [d] }
  | _ => none }
def swapSharedRow : OpenClaim := { program := "ythfcmfhmaokioaa", sum := "72e6dd1f9ad6bfcfef1382bd2ac2303b53cc245eb618f305f85b60aec7e9a0ba", func := "headland/headlandlaw16.SwapShared", spec := "swapShared", unfollowed := true, recurses := true, plainKeys := false, apart := false }
def SwapSharedSaid : Prop := swapSharedRow.holds Try.pinned (OpenSpec.ofChange swapSharedSpec)

/-- ITS FALSE NEIGHBOUR: 'it returns false'. Refute it at one input. -/
def swapSharedWrong : ChangeSpec := { name := "swapShared", fn := fun _ => fun
  | [d] => { results := [.lit (.bool false)], args := [d] }
  | _ => none }
def SwapSharedWrongFalsely : Prop := swapSharedRow.holds Try.pinned (OpenSpec.ofChange swapSharedWrong)

/-- 'headlandlaw16.SwapOnce': WHATEVER THE INPUT: true; the input reads as it did. -/
def swapOnceSpec : ChangeSpec := { name := "swapOnce", fn := fun _ => fun
  | [d1, d2, d3] => { results := [.lit (.bool true)], args := [d1, d2, d3] }
  | _ => none }
def swapOnceRow : OpenClaim := { program := "ythfcmfhmaokioaa", sum := "72e6dd1f9ad6bfcfef1382bd2ac2303b53cc245eb618f305f85b60aec7e9a0ba", func := "headland/headlandlaw16.SwapOnce", spec := "swapOnce", unfollowed := true, recurses := true, plainKeys := false, apart := false }
def SwapOnceSaid : Prop := swapOnceRow.holds Try.pinned (OpenSpec.ofChange swapOnceSpec)

/-- ITS FALSE NEIGHBOUR: 'it returns false'. Refute it at one input. -/
def swapOnceWrong : ChangeSpec := { name := "swapOnce", fn := fun _ => fun
  | [d1, d2, d3] => { results := [.lit (.bool false)], args := [d1, d2, d3] }
  | _ => none }
def SwapOnceWrongFalsely : Prop := swapOnceRow.holds Try.pinned (OpenSpec.ofChange swapOnceWrong)

/- THE SECOND FORM. 'bulk': how many values and letters a reading holds, each counted each time it is reached (what is shared counts as often as it is met; a slice's spare places count too). A statement '..UptoSaid' is the law's where the arguments, and the package variables that the reading takes, are together of bulk at most 1048576: NARROWER than '..Said'. Prove '..Said' where nothing that the law and all that it calls make is longer than what came in: it says more and counts as full. Else prove '..UptoSaid'. A law counts once. -/
mutual
def uptoBulk {H : Type} : DataW H → Nat
  | .lit (.string bytes) => bytes.length + 1
  | .lit _ => 1
  | .nil => 1
  | .ptr d => uptoBulk d + 1
  | .slice elems spare => uptoBulkAll elems + uptoBulkAll spare + 1
  | .agg parts => uptoBulkAll parts + 1
  | .iface _ d => uptoBulk d + 1
  | .map entries => uptoBulkEntries entries + 1
  | .held _ => 1
def uptoBulkAll {H : Type} : List (DataW H) → Nat
  | [] => 0
  | d :: r => uptoBulk d + uptoBulkAll r
def uptoBulkEntries {H : Type} : List (Lit × DataW H) → Nat
  | [] => 0
  | x :: r => uptoBulkEntry x + uptoBulkEntries r
def uptoBulkEntry {H : Type} : Lit × DataW H → Nat
  | (.string bytes, d) => bytes.length + uptoBulk d + 1
  | (_, d) => uptoBulk d + 1
 end
def uptoSmall : (H : Type) → List (DataW H) → Bool := fun _ ds => decide (uptoBulkAll ds ≤ 1048576)
def OpenSpec.upto (s : _root_.Go.ChangeSpec) : _root_.Go.OpenSpec := { _root_.Go.OpenSpec.ofChange s with cond := some uptoSmall }

/-- 'headlandlaw16.SwapPlays', WHERE WHAT IT READS IS OF BULK AT MOST 1048576: true; the input reads as it did. -/
def swapPlaysUptoRow : OpenClaim := { program := "ythfcmfhmaokioaa", sum := "72e6dd1f9ad6bfcfef1382bd2ac2303b53cc245eb618f305f85b60aec7e9a0ba", func := "headland/headlandlaw16.SwapPlays", spec := "swapPlays", unfollowed := true, recurses := true, plainKeys := false, apart := false, narrowed := true }
def SwapPlaysUptoSaid : Prop := swapPlaysUptoRow.holds Try.pinned (OpenSpec.upto swapPlaysSpec)

/-- 'headlandlaw16.SwapFull', WHERE WHAT IT READS IS OF BULK AT MOST 1048576: true; the input reads as it did. -/
def swapFullUptoRow : OpenClaim := { program := "ythfcmfhmaokioaa", sum := "72e6dd1f9ad6bfcfef1382bd2ac2303b53cc245eb618f305f85b60aec7e9a0ba", func := "headland/headlandlaw16.SwapFull", spec := "swapFull", unfollowed := true, recurses := true, plainKeys := false, apart := false, narrowed := true }
def SwapFullUptoSaid : Prop := swapFullUptoRow.holds Try.pinned (OpenSpec.upto swapFullSpec)

/-- 'headlandlaw16.SwapNone', WHERE WHAT IT READS IS OF BULK AT MOST 1048576: true; the input reads as it did. -/
def swapNoneUptoRow : OpenClaim := { program := "ythfcmfhmaokioaa", sum := "72e6dd1f9ad6bfcfef1382bd2ac2303b53cc245eb618f305f85b60aec7e9a0ba", func := "headland/headlandlaw16.SwapNone", spec := "swapNone", unfollowed := true, recurses := true, plainKeys := false, apart := false, narrowed := true }
def SwapNoneUptoSaid : Prop := swapNoneUptoRow.holds Try.pinned (OpenSpec.upto swapNoneSpec)

/-- 'headlandlaw16.SwapShared', WHERE WHAT IT READS IS OF BULK AT MOST 1048576: true; the input reads as it did. -/
def swapSharedUptoRow : OpenClaim := { program := "ythfcmfhmaokioaa", sum := "72e6dd1f9ad6bfcfef1382bd2ac2303b53cc245eb618f305f85b60aec7e9a0ba", func := "headland/headlandlaw16.SwapShared", spec := "swapShared", unfollowed := true, recurses := true, plainKeys := false, apart := false, narrowed := true }
def SwapSharedUptoSaid : Prop := swapSharedUptoRow.holds Try.pinned (OpenSpec.upto swapSharedSpec)

/-- 'headlandlaw16.SwapOnce', WHERE WHAT IT READS IS OF BULK AT MOST 1048576: true; the input reads as it did. -/
def swapOnceUptoRow : OpenClaim := { program := "ythfcmfhmaokioaa", sum := "72e6dd1f9ad6bfcfef1382bd2ac2303b53cc245eb618f305f85b60aec7e9a0ba", func := "headland/headlandlaw16.SwapOnce", spec := "swapOnce", unfollowed := true, recurses := true, plainKeys := false, apart := false, narrowed := true }
def SwapOnceUptoSaid : Prop := swapOnceUptoRow.holds Try.pinned (OpenSpec.upto swapOnceSpec)

end Rows
end Go.Proofs.Ythfcmfhmaokioaa
