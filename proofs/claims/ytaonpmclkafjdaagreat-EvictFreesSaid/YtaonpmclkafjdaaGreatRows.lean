/-
  No cell of these rows narrows 'for every input' (looked for: loops, veiled, ifaces, maps, wideKeys, modest, calm, conditions, laid).
  DERIVED. THE GIVEN ROWS OF THIS SEAT. 6 by the template 'for every input the law returns true; each argument reads behind the call as it read before'; 0 by the template 'total and deterministic' (their statements: YtaonpmclkafjdaaGreatTotals.lean).
  GIVEN WITH THE SEED: the statements are not yours to turn. If you find one false, say at which input.
  Laid BY PROGRAM, IN A SANDBOX (cutbox-rows.mjs): the forced cells as the released guide's own fill.sh prints them over the translation 562ef9d1733e3710… (all of the seat's roots in one cut). By AI agents, Wed Nov 11 2026. No macro, syntax, notation, axiom, sorry.
-/
import Derived.Test.YtaonpmclkafjdaaGreatChecked
import GoSem.Claim
import GoSem.ClaimJoined
import GoSem.ClaimMapViews
import Derived.JoinedTies
import Derived.KernelRfl
namespace Go.Proofs.YtaonpmclkafjdaaGreat
/- THE CELL 'sum', in the pinned program and in every row, IS THE sha256 OF THE DUMP (.gsa) THAT YtaonpmclkafjdaaGreatProg.lean LOADS. Nothing in Lean hashes anything: it is a label: what it is worth is what the hold of that sum in a sandbox is worth. -/
noncomputable def Tryz.pinned : Pinned := { name := "ytaonpmclkafjdaagreat", sum := "562ef9d1733e37104dd7374cf4b11824bac588295d6448c476b442e949cfaa8d", checked := Tryz.checked }
namespace Rows
def none {H : Type} : Left H := { results := [], args := [] }

/-- 'headlandlaw20.EvictFrees': WHATEVER THE INPUT: true; the input reads as it did. -/
def evictFreesSpec : ChangeSpec := { name := "evictFrees", fn := fun _ => fun
  | [d1, d2] => { results := [.lit (.bool true)], args := [d1, d2] }
  | _ => none }
def evictFreesRow : OpenClaim := { program := "ytaonpmclkafjdaagreat", sum := "562ef9d1733e37104dd7374cf4b11824bac588295d6448c476b442e949cfaa8d", func := "headland/headlandlaw20.EvictFrees", spec := "evictFrees", unfollowed := true, recurses := true, plainKeys := false, apart := false }
def EvictFreesSaid : Prop := evictFreesRow.holds Tryz.pinned (OpenSpec.ofChange evictFreesSpec)

/-- ITS FALSE NEIGHBOUR: 'it returns false'. Refute it at one input. -/
def evictFreesWrong : ChangeSpec := { name := "evictFrees", fn := fun _ => fun
  | [d1, d2] => { results := [.lit (.bool false)], args := [d1, d2] }
  | _ => none }
def EvictFreesWrongFalsely : Prop := evictFreesRow.holds Tryz.pinned (OpenSpec.ofChange evictFreesWrong)

/-- 'headlandlaw20.EvictSync': WHATEVER THE INPUT: true; the input reads as it did. -/
def evictSyncSpec : ChangeSpec := { name := "evictSync", fn := fun _ => fun
  | [d1, d2, d3] => { results := [.lit (.bool true)], args := [d1, d2, d3] }
  | _ => none }
def evictSyncRow : OpenClaim := { program := "ytaonpmclkafjdaagreat", sum := "562ef9d1733e37104dd7374cf4b11824bac588295d6448c476b442e949cfaa8d", func := "headland/headlandlaw20.EvictSync", spec := "evictSync", unfollowed := true, recurses := true, plainKeys := false, apart := false }
def EvictSyncSaid : Prop := evictSyncRow.holds Tryz.pinned (OpenSpec.ofChange evictSyncSpec)

/-- ITS FALSE NEIGHBOUR: 'it returns false'. Refute it at one input. -/
def evictSyncWrong : ChangeSpec := { name := "evictSync", fn := fun _ => fun
  | [d1, d2, d3] => { results := [.lit (.bool false)], args := [d1, d2, d3] }
  | _ => none }
def EvictSyncWrongFalsely : Prop := evictSyncRow.holds Tryz.pinned (OpenSpec.ofChange evictSyncWrong)

/-- 'headlandlaw20.EvictForked': WHATEVER THE INPUT: true; the input reads as it did. -/
def evictForkedSpec : ChangeSpec := { name := "evictForked", fn := fun _ => fun
  | [d1, d2, d3] => { results := [.lit (.bool true)], args := [d1, d2, d3] }
  | _ => none }
def evictForkedRow : OpenClaim := { program := "ytaonpmclkafjdaagreat", sum := "562ef9d1733e37104dd7374cf4b11824bac588295d6448c476b442e949cfaa8d", func := "headland/headlandlaw20.EvictForked", spec := "evictForked", unfollowed := true, recurses := true, plainKeys := false, apart := false }
def EvictForkedSaid : Prop := evictForkedRow.holds Tryz.pinned (OpenSpec.ofChange evictForkedSpec)

/-- ITS FALSE NEIGHBOUR: 'it returns false'. Refute it at one input. -/
def evictForkedWrong : ChangeSpec := { name := "evictForked", fn := fun _ => fun
  | [d1, d2, d3] => { results := [.lit (.bool false)], args := [d1, d2, d3] }
  | _ => none }
def EvictForkedWrongFalsely : Prop := evictForkedRow.holds Tryz.pinned (OpenSpec.ofChange evictForkedWrong)

/-- 'headlandlaw20.EvictFull': WHATEVER THE INPUT: true; the input reads as it did. -/
def evictFullSpec : ChangeSpec := { name := "evictFull", fn := fun _ => fun
  | [d] => { results := [.lit (.bool true)], args := [d] }
  | _ => none }
def evictFullRow : OpenClaim := { program := "ytaonpmclkafjdaagreat", sum := "562ef9d1733e37104dd7374cf4b11824bac588295d6448c476b442e949cfaa8d", func := "headland/headlandlaw20.EvictFull", spec := "evictFull", unfollowed := true, recurses := true, plainKeys := false, apart := false }
def EvictFullSaid : Prop := evictFullRow.holds Tryz.pinned (OpenSpec.ofChange evictFullSpec)

/-- ITS FALSE NEIGHBOUR: 'it returns false'. Refute it at one input. -/
def evictFullWrong : ChangeSpec := { name := "evictFull", fn := fun _ => fun
  | [d] => { results := [.lit (.bool false)], args := [d] }
  | _ => none }
def EvictFullWrongFalsely : Prop := evictFullRow.holds Tryz.pinned (OpenSpec.ofChange evictFullWrong)

/-- 'headlandlaw20.EvictClean': WHATEVER THE INPUT: true; the input reads as it did. -/
def evictCleanSpec : ChangeSpec := { name := "evictClean", fn := fun _ => fun
  | [d1, d2] => { results := [.lit (.bool true)], args := [d1, d2] }
  | _ => none }
def evictCleanRow : OpenClaim := { program := "ytaonpmclkafjdaagreat", sum := "562ef9d1733e37104dd7374cf4b11824bac588295d6448c476b442e949cfaa8d", func := "headland/headlandlaw20.EvictClean", spec := "evictClean", unfollowed := true, recurses := true, plainKeys := false, apart := false }
def EvictCleanSaid : Prop := evictCleanRow.holds Tryz.pinned (OpenSpec.ofChange evictCleanSpec)

/-- ITS FALSE NEIGHBOUR: 'it returns false'. Refute it at one input. -/
def evictCleanWrong : ChangeSpec := { name := "evictClean", fn := fun _ => fun
  | [d1, d2] => { results := [.lit (.bool false)], args := [d1, d2] }
  | _ => none }
def EvictCleanWrongFalsely : Prop := evictCleanRow.holds Tryz.pinned (OpenSpec.ofChange evictCleanWrong)

/-- 'headlandlaw21.MoveNone': WHATEVER THE INPUT: true; the input reads as it did. -/
def moveNoneSpec : ChangeSpec := { name := "moveNone", fn := fun _ => fun
  | [d] => { results := [.lit (.bool true)], args := [d] }
  | _ => none }
def moveNoneRow : OpenClaim := { program := "ytaonpmclkafjdaagreat", sum := "562ef9d1733e37104dd7374cf4b11824bac588295d6448c476b442e949cfaa8d", func := "headland/headlandlaw21.MoveNone", spec := "moveNone", unfollowed := true, recurses := true, plainKeys := false, apart := false }
def MoveNoneSaid : Prop := moveNoneRow.holds Tryz.pinned (OpenSpec.ofChange moveNoneSpec)

/-- ITS FALSE NEIGHBOUR: 'it returns false'. Refute it at one input. -/
def moveNoneWrong : ChangeSpec := { name := "moveNone", fn := fun _ => fun
  | [d] => { results := [.lit (.bool false)], args := [d] }
  | _ => none }
def MoveNoneWrongFalsely : Prop := moveNoneRow.holds Tryz.pinned (OpenSpec.ofChange moveNoneWrong)

/- THE SECOND FORM. 'bulk': how many values and letters a reading holds, each counted each time it is reached (what is shared counts as often as it is met; a slice's spare places count too). A statement '..UptoSaid' is the law's where the arguments, and the package variables that the reading takes, are together of bulk at most 1048576: NARROWER than '..Said'. Prove '..Said' where nothing that the law and all that it calls make is longer than what came in: it says more and counts as full. Else prove '..UptoSaid'. A law counts once. -/
mutual
def uptoBulk {H : Type} : DataW H → Nat
  | .lit (.string bytes) => bytes.length + 1
  | .lit _ => 1
  | .nil => 1
  | .ptr d => uptoBulk d + 1
  | .slice elems spare => uptoBulkAll elems + uptoBulkAll spare + 1
  | .agg parts => uptoBulkAll parts + 1
  | .iface _ d => uptoBulk d + 1
  | .map entries => uptoBulkEntries entries + 1
  | .held _ => 1
def uptoBulkAll {H : Type} : List (DataW H) → Nat
  | [] => 0
  | d :: r => uptoBulk d + uptoBulkAll r
def uptoBulkEntries {H : Type} : List (Lit × DataW H) → Nat
  | [] => 0
  | x :: r => uptoBulkEntry x + uptoBulkEntries r
def uptoBulkEntry {H : Type} : Lit × DataW H → Nat
  | (.string bytes, d) => bytes.length + uptoBulk d + 1
  | (_, d) => uptoBulk d + 1
 end
def uptoSmall : (H : Type) → List (DataW H) → Bool := fun _ ds => decide (uptoBulkAll ds ≤ 1048576)
def OpenSpec.upto (s : _root_.Go.ChangeSpec) : _root_.Go.OpenSpec := { _root_.Go.OpenSpec.ofChange s with cond := some uptoSmall }

/-- 'headlandlaw20.EvictFrees', WHERE WHAT IT READS IS OF BULK AT MOST 1048576: true; the input reads as it did. -/
def evictFreesUptoRow : OpenClaim := { program := "ytaonpmclkafjdaagreat", sum := "562ef9d1733e37104dd7374cf4b11824bac588295d6448c476b442e949cfaa8d", func := "headland/headlandlaw20.EvictFrees", spec := "evictFrees", unfollowed := true, recurses := true, plainKeys := false, apart := false, narrowed := true }
def EvictFreesUptoSaid : Prop := evictFreesUptoRow.holds Tryz.pinned (OpenSpec.upto evictFreesSpec)

/-- 'headlandlaw20.EvictSync', WHERE WHAT IT READS IS OF BULK AT MOST 1048576: true; the input reads as it did. -/
def evictSyncUptoRow : OpenClaim := { program := "ytaonpmclkafjdaagreat", sum := "562ef9d1733e37104dd7374cf4b11824bac588295d6448c476b442e949cfaa8d", func := "headland/headlandlaw20.EvictSync", spec := "evictSync", unfollowed := true, recurses := true, plainKeys := false, apart := false, narrowed := true }
def EvictSyncUptoSaid : Prop := evictSyncUptoRow.holds Tryz.pinned (OpenSpec.upto evictSyncSpec)

/-- 'headlandlaw20.EvictForked', WHERE WHAT IT READS IS OF BULK AT MOST 1048576: true; the input reads as it did. -/
def evictForkedUptoRow : OpenClaim := { program := "ytaonpmclkafjdaagreat", sum := "562ef9d1733e37104dd7374cf4b11824bac588295d6448c476b442e949cfaa8d", func := "headland/headlandlaw20.EvictForked", spec := "evictForked", unfollowed := true, recurses := true, plainKeys := false, apart := false, narrowed := true }
def EvictForkedUptoSaid : Prop := evictForkedUptoRow.holds Tryz.pinned (OpenSpec.upto evictForkedSpec)

/-- 'headlandlaw20.EvictFull', WHERE WHAT IT READS IS OF BULK AT MOST 1048576: true; the input reads as it did. -/
def evictFullUptoRow : OpenClaim := { program := "ytaonpmclkafjdaagreat", sum := "562ef9d1733e37104dd7374cf4b11824bac588295d6448c476b442e949cfaa8d", func := "headland/headlandlaw20.EvictFull", spec := "evictFull", unfollowed := true, recurses := true, plainKeys := false, apart := false, narrowed := true }
def EvictFullUptoSaid : Prop := evictFullUptoRow.holds Tryz.pinned (OpenSpec.upto evictFullSpec)

/-- 'headlandlaw20.EvictClean', WHERE WHAT IT READS IS OF BULK AT MOST 1048576: true; the input reads as it did. -/
def evictCleanUptoRow : OpenClaim := { program := "ytaonpmclkafjdaagreat", sum := "562ef9d1733e37104dd7374cf4b11824bac588295d6448c476b442e949cfaa8d", func := "headland/headlandlaw20.EvictClean", spec := "evictClean", unfollowed := true, recurses := true, plainKeys := false, apart := false, narrowed := true }
def EvictCleanUptoSaid : Prop := evictCleanUptoRow.holds Tryz.pinned (OpenSpec.upto evictCleanSpec)

/-- 'headlandlaw21.MoveNone', WHERE WHAT IT READS IS OF BULK AT MOST 1048576: true; the input reads as it did. -/
def moveNoneUptoRow : OpenClaim := { program := "ytaonpmclkafjdaagreat", sum := "562ef9d1733e37104dd7374cf4b11824bac588295d6448c476b442e949cfaa8d", func := "headland/headlandlaw21.MoveNone", spec := "moveNone", unfollowed := true, recurses := true, plainKeys := false, apart := false, narrowed := true }
def MoveNoneUptoSaid : Prop := moveNoneUptoRow.holds Tryz.pinned (OpenSpec.upto moveNoneSpec)

end Rows
end Go.Proofs.YtaonpmclkafjdaaGreat
