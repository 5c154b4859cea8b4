/-
  No cell of these rows narrows 'for every input' (looked for: loops, veiled, ifaces, maps, wideKeys, modest, calm, conditions, laid).
  DERIVED. THE GIVEN ROWS OF THIS SEAT. 6 by the template 'for every input the law returns true; each argument reads behind the call as it read before'; 0 by the template 'total and deterministic' (their statements: YtfnegbcpiejdaaaTotals.lean).
  GIVEN WITH THE SEED: the statements are not yours to turn. If you find one false, say at which input.
  Laid BY PROGRAM, IN A SANDBOX (cutbox-rows.mjs): the forced cells as the released guide's own fill.sh prints them over the translation fc14456c7611a031… (all of the seat's roots in one cut). By AI agents, Wed Nov 11 2026. No macro, syntax, notation, axiom, sorry.
-/
import Derived.Test.YtfnegbcpiejdaaaChecked
import GoSem.Claim
import GoSem.ClaimJoined
import GoSem.ClaimMapViews
import Derived.JoinedTies
import Derived.KernelRfl
namespace Go.Proofs.Ytfnegbcpiejdaaa
/- THE CELL 'sum', in the pinned program and in every row, IS THE sha256 OF THE DUMP (.gsa) THAT YtfnegbcpiejdaaaProg.lean LOADS. Nothing in Lean hashes anything: it is a label: what it is worth is what the hold of that sum in a sandbox is worth. -/
noncomputable def Try.pinned : Pinned := { name := "ytfnegbcpiejdaaa", sum := "fc14456c7611a031b241f3e53af397dfe3b623820f4f6fc8f32ecce0f40e8f4d", checked := Try.checked }
namespace Rows
def none {H : Type} : Left H := { results := [], args := [] }

/-- 'headlandlaw06.JournalPlays': WHATEVER THE INPUT: true; the input reads as it did. -/
def journalPlaysSpec : ChangeSpec := { name := "journalPlays", fn := fun _ => fun
  | [d] => { results := [.lit (.bool true)], args := [d] }
  | _ => none }
def journalPlaysRow : OpenClaim := { program := "ytfnegbcpiejdaaa", sum := "fc14456c7611a031b241f3e53af397dfe3b623820f4f6fc8f32ecce0f40e8f4d", func := "headland/headlandlaw06.JournalPlays", spec := "journalPlays", unfollowed := true, recurses := true, apart := false }
def JournalPlaysSaid : Prop := journalPlaysRow.holds Try.pinned (OpenSpec.ofChange journalPlaysSpec)

/-- ITS FALSE NEIGHBOUR: 'it returns false'. Refute it at one input. -/
def journalPlaysWrong : ChangeSpec := { name := "journalPlays", fn := fun _ => fun
  | [d] => { results := [.lit (.bool false)], args := [d] }
  | _ => none }
def JournalPlaysWrongFalsely : Prop := journalPlaysRow.holds Try.pinned (OpenSpec.ofChange journalPlaysWrong)

/-- 'headlandlaw06.JournalCrash': WHATEVER THE INPUT: true; the input reads as it did. -/
def journalCrashSpec : ChangeSpec := { name := "journalCrash", fn := fun _ => fun
  | [d1, d2, d3, d4, d5, d6] => { results := [.lit (.bool true)], args := [d1, d2, d3, d4, d5, d6] }
  | _ => none }
def journalCrashRow : OpenClaim := { program := "ytfnegbcpiejdaaa", sum := "fc14456c7611a031b241f3e53af397dfe3b623820f4f6fc8f32ecce0f40e8f4d", func := "headland/headlandlaw06.JournalCrash", spec := "journalCrash", unfollowed := true, recurses := true, apart := false }
def JournalCrashSaid : Prop := journalCrashRow.holds Try.pinned (OpenSpec.ofChange journalCrashSpec)

/-- ITS FALSE NEIGHBOUR: 'it returns false'. Refute it at one input. -/
def journalCrashWrong : ChangeSpec := { name := "journalCrash", fn := fun _ => fun
  | [d1, d2, d3, d4, d5, d6] => { results := [.lit (.bool false)], args := [d1, d2, d3, d4, d5, d6] }
  | _ => none }
def JournalCrashWrongFalsely : Prop := journalCrashRow.holds Try.pinned (OpenSpec.ofChange journalCrashWrong)

/-- 'headlandlaw06.JournalNone': WHATEVER THE INPUT: true; the input reads as it did. -/
def journalNoneSpec : ChangeSpec := { name := "journalNone", fn := fun _ => fun
  | [d] => { results := [.lit (.bool true)], args := [d] }
  | _ => none }
def journalNoneRow : OpenClaim := { program := "ytfnegbcpiejdaaa", sum := "fc14456c7611a031b241f3e53af397dfe3b623820f4f6fc8f32ecce0f40e8f4d", func := "headland/headlandlaw06.JournalNone", spec := "journalNone", unfollowed := true, recurses := true, apart := false }
def JournalNoneSaid : Prop := journalNoneRow.holds Try.pinned (OpenSpec.ofChange journalNoneSpec)

/-- ITS FALSE NEIGHBOUR: 'it returns false'. Refute it at one input. -/
def journalNoneWrong : ChangeSpec := { name := "journalNone", fn := fun _ => fun
  | [d] => { results := [.lit (.bool false)], args := [d] }
  | _ => none }
def JournalNoneWrongFalsely : Prop := journalNoneRow.holds Try.pinned (OpenSpec.ofChange journalNoneWrong)

/-- 'headlandlaw06.JournalBroken': WHATEVER THE INPUT: true; the input reads as it did. -/
def journalBrokenSpec : ChangeSpec := { name := "journalBroken", fn := fun _ => fun
  | [d1, d2, d3, d4] => { results := [.lit (.bool true)], args := [d1, d2, d3, d4] }
  | _ => none }
def journalBrokenRow : OpenClaim := { program := "ytfnegbcpiejdaaa", sum := "fc14456c7611a031b241f3e53af397dfe3b623820f4f6fc8f32ecce0f40e8f4d", func := "headland/headlandlaw06.JournalBroken", spec := "journalBroken", unfollowed := true, recurses := true, apart := false }
def JournalBrokenSaid : Prop := journalBrokenRow.holds Try.pinned (OpenSpec.ofChange journalBrokenSpec)

/-- ITS FALSE NEIGHBOUR: 'it returns false'. Refute it at one input. -/
def journalBrokenWrong : ChangeSpec := { name := "journalBroken", fn := fun _ => fun
  | [d1, d2, d3, d4] => { results := [.lit (.bool false)], args := [d1, d2, d3, d4] }
  | _ => none }
def JournalBrokenWrongFalsely : Prop := journalBrokenRow.holds Try.pinned (OpenSpec.ofChange journalBrokenWrong)

/-- 'headlandlaw08.RunsPlays': WHATEVER THE INPUT: true; the input reads as it did. -/
def runsPlaysSpec : ChangeSpec := { name := "runsPlays", fn := fun _ => fun
  | [d1, d2, d3, d4, d5, d6] => { results := [.lit (.bool true)], args := [d1, d2, d3, d4, d5, d6] }
  | _ => none }
def runsPlaysRow : OpenClaim := { program := "ytfnegbcpiejdaaa", sum := "fc14456c7611a031b241f3e53af397dfe3b623820f4f6fc8f32ecce0f40e8f4d", func := "headland/headlandlaw08.RunsPlays", spec := "runsPlays", apart := false }
def RunsPlaysSaid : Prop := runsPlaysRow.holds Try.pinned (OpenSpec.ofChange runsPlaysSpec)

/-- ITS FALSE NEIGHBOUR: 'it returns false'. Refute it at one input. -/
def runsPlaysWrong : ChangeSpec := { name := "runsPlays", fn := fun _ => fun
  | [d1, d2, d3, d4, d5, d6] => { results := [.lit (.bool false)], args := [d1, d2, d3, d4, d5, d6] }
  | _ => none }
def RunsPlaysWrongFalsely : Prop := runsPlaysRow.holds Try.pinned (OpenSpec.ofChange runsPlaysWrong)

/-- 'headlandlaw08.RunsHalves': WHATEVER THE INPUT: true; the input reads as it did. -/
def runsHalvesSpec : ChangeSpec := { name := "runsHalves", fn := fun _ => fun
  | [d1, d2] => { results := [.lit (.bool true)], args := [d1, d2] }
  | _ => none }
def runsHalvesRow : OpenClaim := { program := "ytfnegbcpiejdaaa", sum := "fc14456c7611a031b241f3e53af397dfe3b623820f4f6fc8f32ecce0f40e8f4d", func := "headland/headlandlaw08.RunsHalves", spec := "runsHalves", apart := false }
def RunsHalvesSaid : Prop := runsHalvesRow.holds Try.pinned (OpenSpec.ofChange runsHalvesSpec)

/-- ITS FALSE NEIGHBOUR: 'it returns false'. Refute it at one input. -/
def runsHalvesWrong : ChangeSpec := { name := "runsHalves", fn := fun _ => fun
  | [d1, d2] => { results := [.lit (.bool false)], args := [d1, d2] }
  | _ => none }
def RunsHalvesWrongFalsely : Prop := runsHalvesRow.holds Try.pinned (OpenSpec.ofChange runsHalvesWrong)

/- THE SECOND FORM. 'bulk': how many values and letters a reading holds, each counted each time it is reached (what is shared counts as often as it is met; a slice's spare places count too). A statement '..UptoSaid' is the law's where the arguments, and the package variables that the reading takes, are together of bulk at most 1048576: NARROWER than '..Said'. Prove '..Said' where nothing that the law and all that it calls make is longer than what came in: it says more and counts as full. Else prove '..UptoSaid'. A law counts once. -/
mutual
def uptoBulk {H : Type} : DataW H → Nat
  | .lit (.string bytes) => bytes.length + 1
  | .lit _ => 1
  | .nil => 1
  | .ptr d => uptoBulk d + 1
  | .slice elems spare => uptoBulkAll elems + uptoBulkAll spare + 1
  | .agg parts => uptoBulkAll parts + 1
  | .iface _ d => uptoBulk d + 1
  | .map entries => uptoBulkEntries entries + 1
  | .held _ => 1
def uptoBulkAll {H : Type} : List (DataW H) → Nat
  | [] => 0
  | d :: r => uptoBulk d + uptoBulkAll r
def uptoBulkEntries {H : Type} : List (Lit × DataW H) → Nat
  | [] => 0
  | x :: r => uptoBulkEntry x + uptoBulkEntries r
def uptoBulkEntry {H : Type} : Lit × DataW H → Nat
  | (.string bytes, d) => bytes.length + uptoBulk d + 1
  | (_, d) => uptoBulk d + 1
 end
def uptoSmall : (H : Type) → List (DataW H) → Bool := fun _ ds => decide (uptoBulkAll ds ≤ 1048576)
def OpenSpec.upto (s : _root_.Go.ChangeSpec) : _root_.Go.OpenSpec := { _root_.Go.OpenSpec.ofChange s with cond := some uptoSmall }

/-- 'headlandlaw06.JournalPlays', WHERE WHAT IT READS IS OF BULK AT MOST 1048576: true; the input reads as it did. -/
def journalPlaysUptoRow : OpenClaim := { program := "ytfnegbcpiejdaaa", sum := "fc14456c7611a031b241f3e53af397dfe3b623820f4f6fc8f32ecce0f40e8f4d", func := "headland/headlandlaw06.JournalPlays", spec := "journalPlays", unfollowed := true, recurses := true, apart := false, narrowed := true }
def JournalPlaysUptoSaid : Prop := journalPlaysUptoRow.holds Try.pinned (OpenSpec.upto journalPlaysSpec)

/-- 'headlandlaw06.JournalCrash', WHERE WHAT IT READS IS OF BULK AT MOST 1048576: true; the input reads as it did. -/
def journalCrashUptoRow : OpenClaim := { program := "ytfnegbcpiejdaaa", sum := "fc14456c7611a031b241f3e53af397dfe3b623820f4f6fc8f32ecce0f40e8f4d", func := "headland/headlandlaw06.JournalCrash", spec := "journalCrash", unfollowed := true, recurses := true, apart := false, narrowed := true }
def JournalCrashUptoSaid : Prop := journalCrashUptoRow.holds Try.pinned (OpenSpec.upto journalCrashSpec)

/-- 'headlandlaw06.JournalNone', WHERE WHAT IT READS IS OF BULK AT MOST 1048576: true; the input reads as it did. -/
def journalNoneUptoRow : OpenClaim := { program := "ytfnegbcpiejdaaa", sum := "fc14456c7611a031b241f3e53af397dfe3b623820f4f6fc8f32ecce0f40e8f4d", func := "headland/headlandlaw06.JournalNone", spec := "journalNone", unfollowed := true, recurses := true, apart := false, narrowed := true }
def JournalNoneUptoSaid : Prop := journalNoneUptoRow.holds Try.pinned (OpenSpec.upto journalNoneSpec)

/-- 'headlandlaw06.JournalBroken', WHERE WHAT IT READS IS OF BULK AT MOST 1048576: true; the input reads as it did. -/
def journalBrokenUptoRow : OpenClaim := { program := "ytfnegbcpiejdaaa", sum := "fc14456c7611a031b241f3e53af397dfe3b623820f4f6fc8f32ecce0f40e8f4d", func := "headland/headlandlaw06.JournalBroken", spec := "journalBroken", unfollowed := true, recurses := true, apart := false, narrowed := true }
def JournalBrokenUptoSaid : Prop := journalBrokenUptoRow.holds Try.pinned (OpenSpec.upto journalBrokenSpec)

/-- 'headlandlaw08.RunsPlays', WHERE WHAT IT READS IS OF BULK AT MOST 1048576: true; the input reads as it did. -/
def runsPlaysUptoRow : OpenClaim := { program := "ytfnegbcpiejdaaa", sum := "fc14456c7611a031b241f3e53af397dfe3b623820f4f6fc8f32ecce0f40e8f4d", func := "headland/headlandlaw08.RunsPlays", spec := "runsPlays", apart := false, narrowed := true }
def RunsPlaysUptoSaid : Prop := runsPlaysUptoRow.holds Try.pinned (OpenSpec.upto runsPlaysSpec)

/-- 'headlandlaw08.RunsHalves', WHERE WHAT IT READS IS OF BULK AT MOST 1048576: true; the input reads as it did. -/
def runsHalvesUptoRow : OpenClaim := { program := "ytfnegbcpiejdaaa", sum := "fc14456c7611a031b241f3e53af397dfe3b623820f4f6fc8f32ecce0f40e8f4d", func := "headland/headlandlaw08.RunsHalves", spec := "runsHalves", apart := false, narrowed := true }
def RunsHalvesUptoSaid : Prop := runsHalvesUptoRow.holds Try.pinned (OpenSpec.upto runsHalvesSpec)

end Rows
end Go.Proofs.Ytfnegbcpiejdaaa
