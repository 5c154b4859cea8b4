/-
  No cell of these rows narrows 'for every input' (looked for: loops, veiled, ifaces, maps, wideKeys, modest, calm, conditions, laid).
  DERIVED. THE GIVEN ROWS OF THIS SEAT. 4 by the template 'for every input the law returns true; each argument reads behind the call as it read before'; 0 by the template 'total and deterministic' (their statements: YtkdniihnilcpfaaTotals.lean).
  GIVEN WITH THE SEED: the statements are not yours to turn. If you find one false, say at which input.
  Laid BY PROGRAM, IN A SANDBOX (cutbox-rows.mjs): the forced cells as the released guide's own fill.sh prints them over the translation e6ae99d8e962df54… (all of the seat's roots in one cut). By AI agents, Wed Nov 11 2026. No macro, syntax, notation, axiom, sorry.
-/
import Derived.Test.YtkdniihnilcpfaaChecked
import GoSem.Claim
import GoSem.ClaimJoined
import GoSem.ClaimMapViews
import Derived.JoinedTies
import Derived.KernelRfl
namespace Go.Proofs.Ytkdniihnilcpfaa
/- THE CELL 'sum', in the pinned program and in every row, IS THE sha256 OF THE DUMP (.gsa) THAT YtkdniihnilcpfaaProg.lean LOADS. Nothing in Lean hashes anything: it is a label: what it is worth is what the hold of that sum in a sandbox is worth. -/
noncomputable def Try.pinned : Pinned := { name := "ytkdniihnilcpfaa", sum := "e6ae99d8e962df5463d497f1a4d5910c01ce9eeaa543aadc411a963adab5868f", checked := Try.checked }
namespace Rows
def none {H : Type} : Left H := { results := [], args := [] }

/-- 'headlandlaw18.SignalPlays': WHATEVER THE INPUT: true; the input reads as it did. -/
def signalPlaysSpec : ChangeSpec := { name := "signalPlays", fn := fun _ => fun
  | [d1, d2] => { results := [.lit (.bool true)], args := [d1, d2] }
  | _ => none }
def signalPlaysRow : OpenClaim := { program := "ytkdniihnilcpfaa", sum := "e6ae99d8e962df5463d497f1a4d5910c01ce9eeaa543aadc411a963adab5868f", func := "headland/headlandlaw18.SignalPlays", spec := "signalPlays", apart := false }
def SignalPlaysSaid : Prop := signalPlaysRow.holds Try.pinned (OpenSpec.ofChange signalPlaysSpec)

/-- ITS FALSE NEIGHBOUR: 'it returns false'. Refute it at one input. -/
def signalPlaysWrong : ChangeSpec := { name := "signalPlays", fn := fun _ => fun
  | [d1, d2] => { results := [.lit (.bool false)], args := [d1, d2] }
  | _ => none }
def SignalPlaysWrongFalsely : Prop := signalPlaysRow.holds Try.pinned (OpenSpec.ofChange signalPlaysWrong)

/-- 'headlandlaw18.SignalFull': WHATEVER THE INPUT: true; the input reads as it did. -/
def signalFullSpec : ChangeSpec := { name := "signalFull", fn := fun _ => fun
  | [d1, d2] => { results := [.lit (.bool true)], args := [d1, d2] }
  | _ => none }
def signalFullRow : OpenClaim := { program := "ytkdniihnilcpfaa", sum := "e6ae99d8e962df5463d497f1a4d5910c01ce9eeaa543aadc411a963adab5868f", func := "headland/headlandlaw18.SignalFull", spec := "signalFull", apart := false }
def SignalFullSaid : Prop := signalFullRow.holds Try.pinned (OpenSpec.ofChange signalFullSpec)

/-- ITS FALSE NEIGHBOUR: 'it returns false'. Refute it at one input. -/
def signalFullWrong : ChangeSpec := { name := "signalFull", fn := fun _ => fun
  | [d1, d2] => { results := [.lit (.bool false)], args := [d1, d2] }
  | _ => none }
def SignalFullWrongFalsely : Prop := signalFullRow.holds Try.pinned (OpenSpec.ofChange signalFullWrong)

/-- 'headlandlaw18.SignalOrder': WHATEVER THE INPUT: true; the input reads as it did. -/
def signalOrderSpec : ChangeSpec := { name := "signalOrder", fn := fun _ => fun
  | [d] => { results := [.lit (.bool true)], args := [d] }
  | _ => none }
def signalOrderRow : OpenClaim := { program := "ytkdniihnilcpfaa", sum := "e6ae99d8e962df5463d497f1a4d5910c01ce9eeaa543aadc411a963adab5868f", func := "headland/headlandlaw18.SignalOrder", spec := "signalOrder", apart := false }
def SignalOrderSaid : Prop := signalOrderRow.holds Try.pinned (OpenSpec.ofChange signalOrderSpec)

/-- ITS FALSE NEIGHBOUR: 'it returns false'. Refute it at one input. -/
def signalOrderWrong : ChangeSpec := { name := "signalOrder", fn := fun _ => fun
  | [d] => { results := [.lit (.bool false)], args := [d] }
  | _ => none }
def SignalOrderWrongFalsely : Prop := signalOrderRow.holds Try.pinned (OpenSpec.ofChange signalOrderWrong)

/-- 'headlandlaw18.SignalRound': WHATEVER THE INPUT: true; the input reads as it did. -/
def signalRoundSpec : ChangeSpec := { name := "signalRound", fn := fun _ => fun
  | [d1, d2] => { results := [.lit (.bool true)], args := [d1, d2] }
  | _ => none }
def signalRoundRow : OpenClaim := { program := "ytkdniihnilcpfaa", sum := "e6ae99d8e962df5463d497f1a4d5910c01ce9eeaa543aadc411a963adab5868f", func := "headland/headlandlaw18.SignalRound", spec := "signalRound", apart := false }
def SignalRoundSaid : Prop := signalRoundRow.holds Try.pinned (OpenSpec.ofChange signalRoundSpec)

/-- ITS FALSE NEIGHBOUR: 'it returns false'. Refute it at one input. -/
def signalRoundWrong : ChangeSpec := { name := "signalRound", fn := fun _ => fun
  | [d1, d2] => { results := [.lit (.bool false)], args := [d1, d2] }
  | _ => none }
def SignalRoundWrongFalsely : Prop := signalRoundRow.holds Try.pinned (OpenSpec.ofChange signalRoundWrong)

/- THE SECOND FORM. 'bulk': how many values and letters a reading holds, each counted each time it is reached (what is shared counts as often as it is met; a slice's spare places count too). A statement '..UptoSaid' is the law's where the arguments, and the package variables that the reading takes, are together of bulk at most 1048576: NARROWER than '..Said'. Prove '..Said' where nothing that the law and all that it calls make is longer than what came in: it says more and counts as full. Else prove '..UptoSaid'. A law counts once. -/
mutual
def uptoBulk {H : Type} : DataW H → Nat
  | .lit (.string bytes) => bytes.length + 1
  | .lit _ => 1
  | .nil => 1
  | .ptr d => uptoBulk d + 1
  | .slice elems spare => uptoBulkAll elems + uptoBulkAll spare + 1
  | .agg parts => uptoBulkAll parts + 1
  | .iface _ d => uptoBulk d + 1
  | .map entries => uptoBulkEntries entries + 1
  | .held _ => 1
def uptoBulkAll {H : Type} : List (DataW H) → Nat
  | [] => 0
  | d :: r => uptoBulk d + uptoBulkAll r
def uptoBulkEntries {H : Type} : List (Lit × DataW H) → Nat
  | [] => 0
  | x :: r => uptoBulkEntry x + uptoBulkEntries r
def uptoBulkEntry {H : Type} : Lit × DataW H → Nat
  | (.string bytes, d) => bytes.length + uptoBulk d + 1
  | (_, d) => uptoBulk d + 1
 end
def uptoSmall : (H : Type) → List (DataW H) → Bool := fun _ ds => decide (uptoBulkAll ds ≤ 1048576)
def OpenSpec.upto (s : _root_.Go.ChangeSpec) : _root_.Go.OpenSpec := { _root_.Go.OpenSpec.ofChange s with cond := some uptoSmall }

/-- 'headlandlaw18.SignalPlays', WHERE WHAT IT READS IS OF BULK AT MOST 1048576: true; the input reads as it did. -/
def signalPlaysUptoRow : OpenClaim := { program := "ytkdniihnilcpfaa", sum := "e6ae99d8e962df5463d497f1a4d5910c01ce9eeaa543aadc411a963adab5868f", func := "headland/headlandlaw18.SignalPlays", spec := "signalPlays", apart := false, narrowed := true }
def SignalPlaysUptoSaid : Prop := signalPlaysUptoRow.holds Try.pinned (OpenSpec.upto signalPlaysSpec)

/-- 'headlandlaw18.SignalFull', WHERE WHAT IT READS IS OF BULK AT MOST 1048576: true; the input reads as it did. -/
def signalFullUptoRow : OpenClaim := { program := "ytkdniihnilcpfaa", sum := "e6ae99d8e962df5463d497f1a4d5910c01ce9eeaa543aadc411a963adab5868f", func := "headland/headlandlaw18.SignalFull", spec := "signalFull", apart := false, narrowed := true }
def SignalFullUptoSaid : Prop := signalFullUptoRow.holds Try.pinned (OpenSpec.upto signalFullSpec)

/-- 'headlandlaw18.SignalOrder', WHERE WHAT IT READS IS OF BULK AT MOST 1048576: true; the input reads as it did. -/
def signalOrderUptoRow : OpenClaim := { program := "ytkdniihnilcpfaa", sum := "e6ae99d8e962df5463d497f1a4d5910c01ce9eeaa543aadc411a963adab5868f", func := "headland/headlandlaw18.SignalOrder", spec := "signalOrder", apart := false, narrowed := true }
def SignalOrderUptoSaid : Prop := signalOrderUptoRow.holds Try.pinned (OpenSpec.upto signalOrderSpec)

/-- 'headlandlaw18.SignalRound', WHERE WHAT IT READS IS OF BULK AT MOST 1048576: true; the input reads as it did. -/
def signalRoundUptoRow : OpenClaim := { program := "ytkdniihnilcpfaa", sum := "e6ae99d8e962df5463d497f1a4d5910c01ce9eeaa543aadc411a963adab5868f", func := "headland/headlandlaw18.SignalRound", spec := "signalRound", apart := false, narrowed := true }
def SignalRoundUptoSaid : Prop := signalRoundUptoRow.holds Try.pinned (OpenSpec.upto signalRoundSpec)

end Rows
end Go.Proofs.Ytkdniihnilcpfaa
