/-
  No cell of these rows narrows 'for every input' (looked for: loops, veiled, ifaces, maps, wideKeys, modest, calm, conditions, laid).
  DERIVED. THE GIVEN ROWS OF THIS SEAT. 5 by the template 'for every input the law returns true; each argument reads behind the call as it read before'; 0 by the template 'total and deterministic' (their statements: YtlodeejeeldplaaTotals.lean).
  GIVEN WITH THE SEED: the statements are not yours to turn. If you find one false, say at which input.
  Laid BY PROGRAM, IN A SANDBOX (cutbox-rows.mjs): the forced cells as the released guide's own fill.sh prints them over the translation 932cb0df4a7c25e8… (all of the seat's roots in one cut). By AI agents, Wed Nov 11 2026. No macro, syntax, notation, axiom, sorry.
-/
import Derived.Test.YtlodeejeeldplaaChecked
import GoSem.Claim
import GoSem.ClaimJoined
import GoSem.ClaimMapViews
import Derived.JoinedTies
import Derived.KernelRfl
namespace Go.Proofs.Ytlodeejeeldplaa
/- THE CELL 'sum', in the pinned program and in every row, IS THE sha256 OF THE DUMP (.gsa) THAT YtlodeejeeldplaaProg.lean LOADS. Nothing in Lean hashes anything: it is a label: what it is worth is what the hold of that sum in a sandbox is worth. -/
noncomputable def Try.pinned : Pinned := { name := "ytlodeejeeldplaa", sum := "932cb0df4a7c25e845c728f8e050aaafc486f7eb1d9d5b3281f49330bac7f81a", checked := Try.checked }
namespace Rows
def none {H : Type} : Left H := { results := [], args := [] }

/-- 'headlandlaw02.RamPlays': WHATEVER THE INPUT: true; the input reads as it did. -/
def ramPlaysSpec : ChangeSpec := { name := "ramPlays", fn := fun _ => fun
  | [d1, d2] => { results := [.lit (.bool true)], args := [d1, d2] }
  | _ => none }
def ramPlaysRow : OpenClaim := { program := "ytlodeejeeldplaa", sum := "932cb0df4a7c25e845c728f8e050aaafc486f7eb1d9d5b3281f49330bac7f81a", func := "headland/headlandlaw02.RamPlays", spec := "ramPlays", apart := false }
def RamPlaysSaid : Prop := ramPlaysRow.holds Try.pinned (OpenSpec.ofChange ramPlaysSpec)

/-- ITS FALSE NEIGHBOUR: 'it returns false'. Refute it at one input. -/
def ramPlaysWrong : ChangeSpec := { name := "ramPlays", fn := fun _ => fun
  | [d1, d2] => { results := [.lit (.bool false)], args := [d1, d2] }
  | _ => none }
def RamPlaysWrongFalsely : Prop := ramPlaysRow.holds Try.pinned (OpenSpec.ofChange ramPlaysWrong)

/-- 'headlandlaw02.RamOwn': WHATEVER THE INPUT: true; the input reads as it did. -/
def ramOwnSpec : ChangeSpec := { name := "ramOwn", fn := fun _ => fun
  | [d] => { results := [.lit (.bool true)], args := [d] }
  | _ => none }
def ramOwnRow : OpenClaim := { program := "ytlodeejeeldplaa", sum := "932cb0df4a7c25e845c728f8e050aaafc486f7eb1d9d5b3281f49330bac7f81a", func := "headland/headlandlaw02.RamOwn", spec := "ramOwn", apart := false }
def RamOwnSaid : Prop := ramOwnRow.holds Try.pinned (OpenSpec.ofChange ramOwnSpec)

/-- ITS FALSE NEIGHBOUR: 'it returns false'. Refute it at one input. -/
def ramOwnWrong : ChangeSpec := { name := "ramOwn", fn := fun _ => fun
  | [d] => { results := [.lit (.bool false)], args := [d] }
  | _ => none }
def RamOwnWrongFalsely : Prop := ramOwnRow.holds Try.pinned (OpenSpec.ofChange ramOwnWrong)

/-- 'headlandlaw02.RamNone': WHATEVER THE INPUT: true; the input reads as it did. -/
def ramNoneSpec : ChangeSpec := { name := "ramNone", fn := fun _ => fun
  | [d1, d2, d3] => { results := [.lit (.bool true)], args := [d1, d2, d3] }
  | _ => none }
def ramNoneRow : OpenClaim := { program := "ytlodeejeeldplaa", sum := "932cb0df4a7c25e845c728f8e050aaafc486f7eb1d9d5b3281f49330bac7f81a", func := "headland/headlandlaw02.RamNone", spec := "ramNone", apart := false }
def RamNoneSaid : Prop := ramNoneRow.holds Try.pinned (OpenSpec.ofChange ramNoneSpec)

/-- ITS FALSE NEIGHBOUR: 'it returns false'. Refute it at one input. -/
def ramNoneWrong : ChangeSpec := { name := "ramNone", fn := fun _ => fun
  | [d1, d2, d3] => { results := [.lit (.bool false)], args := [d1, d2, d3] }
  | _ => none }
def RamNoneWrongFalsely : Prop := ramNoneRow.holds Try.pinned (OpenSpec.ofChange ramNoneWrong)

/-- 'headlandlaw02.RamPoison': WHATEVER THE INPUT: true; the input reads as it did. -/
def ramPoisonSpec : ChangeSpec := { name := "ramPoison", fn := fun _ => fun
  | [d1, d2, d3] => { results := [.lit (.bool true)], args := [d1, d2, d3] }
  | _ => none }
def ramPoisonRow : OpenClaim := { program := "ytlodeejeeldplaa", sum := "932cb0df4a7c25e845c728f8e050aaafc486f7eb1d9d5b3281f49330bac7f81a", func := "headland/headlandlaw02.RamPoison", spec := "ramPoison", apart := false }
def RamPoisonSaid : Prop := ramPoisonRow.holds Try.pinned (OpenSpec.ofChange ramPoisonSpec)

/-- ITS FALSE NEIGHBOUR: 'it returns false'. Refute it at one input. -/
def ramPoisonWrong : ChangeSpec := { name := "ramPoison", fn := fun _ => fun
  | [d1, d2, d3] => { results := [.lit (.bool false)], args := [d1, d2, d3] }
  | _ => none }
def RamPoisonWrongFalsely : Prop := ramPoisonRow.holds Try.pinned (OpenSpec.ofChange ramPoisonWrong)

/-- 'headlandlaw02.RamCopies': WHATEVER THE INPUT: true; the input reads as it did. -/
def ramCopiesSpec : ChangeSpec := { name := "ramCopies", fn := fun _ => fun
  | [d1, d2, d3] => { results := [.lit (.bool true)], args := [d1, d2, d3] }
  | _ => none }
def ramCopiesRow : OpenClaim := { program := "ytlodeejeeldplaa", sum := "932cb0df4a7c25e845c728f8e050aaafc486f7eb1d9d5b3281f49330bac7f81a", func := "headland/headlandlaw02.RamCopies", spec := "ramCopies", apart := false }
def RamCopiesSaid : Prop := ramCopiesRow.holds Try.pinned (OpenSpec.ofChange ramCopiesSpec)

/-- ITS FALSE NEIGHBOUR: 'it returns false'. Refute it at one input. -/
def ramCopiesWrong : ChangeSpec := { name := "ramCopies", fn := fun _ => fun
  | [d1, d2, d3] => { results := [.lit (.bool false)], args := [d1, d2, d3] }
  | _ => none }
def RamCopiesWrongFalsely : Prop := ramCopiesRow.holds Try.pinned (OpenSpec.ofChange ramCopiesWrong)

/- THE SECOND FORM. 'bulk': how many values and letters a reading holds, each counted each time it is reached (what is shared counts as often as it is met; a slice's spare places count too). A statement '..UptoSaid' is the law's where the arguments, and the package variables that the reading takes, are together of bulk at most 1048576: NARROWER than '..Said'. Prove '..Said' where nothing that the law and all that it calls make is longer than what came in: it says more and counts as full. Else prove '..UptoSaid'. A law counts once. -/
mutual
def uptoBulk {H : Type} : DataW H → Nat
  | .lit (.string bytes) => bytes.length + 1
  | .lit _ => 1
  | .nil => 1
  | .ptr d => uptoBulk d + 1
  | .slice elems spare => uptoBulkAll elems + uptoBulkAll spare + 1
  | .agg parts => uptoBulkAll parts + 1
  | .iface _ d => uptoBulk d + 1
  | .map entries => uptoBulkEntries entries + 1
  | .held _ => 1
def uptoBulkAll {H : Type} : List (DataW H) → Nat
  | [] => 0
  | d :: r => uptoBulk d + uptoBulkAll r
def uptoBulkEntries {H : Type} : List (Lit × DataW H) → Nat
  | [] => 0
  | x :: r => uptoBulkEntry x + uptoBulkEntries r
def uptoBulkEntry {H : Type} : Lit × DataW H → Nat
  | (.string bytes, d) => bytes.length + uptoBulk d + 1
  | (_, d) => uptoBulk d + 1
 end
def uptoSmall : (H : Type) → List (DataW H) → Bool := fun _ ds => decide (uptoBulkAll ds ≤ 1048576)
def OpenSpec.upto (s : _root_.Go.ChangeSpec) : _root_.Go.OpenSpec := { _root_.Go.OpenSpec.ofChange s with cond := some uptoSmall }

/-- 'headlandlaw02.RamPlays', WHERE WHAT IT READS IS OF BULK AT MOST 1048576: true; the input reads as it did. -/
def ramPlaysUptoRow : OpenClaim := { program := "ytlodeejeeldplaa", sum := "932cb0df4a7c25e845c728f8e050aaafc486f7eb1d9d5b3281f49330bac7f81a", func := "headland/headlandlaw02.RamPlays", spec := "ramPlays", apart := false, narrowed := true }
def RamPlaysUptoSaid : Prop := ramPlaysUptoRow.holds Try.pinned (OpenSpec.upto ramPlaysSpec)

/-- 'headlandlaw02.RamOwn', WHERE WHAT IT READS IS OF BULK AT MOST 1048576: true; the input reads as it did. -/
def ramOwnUptoRow : OpenClaim := { program := "ytlodeejeeldplaa", sum := "932cb0df4a7c25e845c728f8e050aaafc486f7eb1d9d5b3281f49330bac7f81a", func := "headland/headlandlaw02.RamOwn", spec := "ramOwn", apart := false, narrowed := true }
def RamOwnUptoSaid : Prop := ramOwnUptoRow.holds Try.pinned (OpenSpec.upto ramOwnSpec)

/-- 'headlandlaw02.RamNone', WHERE WHAT IT READS IS OF BULK AT MOST 1048576: true; the input reads as it did. -/
def ramNoneUptoRow : OpenClaim := { program := "ytlodeejeeldplaa", sum := "932cb0df4a7c25e845c728f8e050aaafc486f7eb1d9d5b3281f49330bac7f81a", func := "headland/headlandlaw02.RamNone", spec := "ramNone", apart := false, narrowed := true }
def RamNoneUptoSaid : Prop := ramNoneUptoRow.holds Try.pinned (OpenSpec.upto ramNoneSpec)

/-- 'headlandlaw02.RamPoison', WHERE WHAT IT READS IS OF BULK AT MOST 1048576: true; the input reads as it did. -/
def ramPoisonUptoRow : OpenClaim := { program := "ytlodeejeeldplaa", sum := "932cb0df4a7c25e845c728f8e050aaafc486f7eb1d9d5b3281f49330bac7f81a", func := "headland/headlandlaw02.RamPoison", spec := "ramPoison", apart := false, narrowed := true }
def RamPoisonUptoSaid : Prop := ramPoisonUptoRow.holds Try.pinned (OpenSpec.upto ramPoisonSpec)

/-- 'headlandlaw02.RamCopies', WHERE WHAT IT READS IS OF BULK AT MOST 1048576: true; the input reads as it did. -/
def ramCopiesUptoRow : OpenClaim := { program := "ytlodeejeeldplaa", sum := "932cb0df4a7c25e845c728f8e050aaafc486f7eb1d9d5b3281f49330bac7f81a", func := "headland/headlandlaw02.RamCopies", spec := "ramCopies", apart := false, narrowed := true }
def RamCopiesUptoSaid : Prop := ramCopiesUptoRow.holds Try.pinned (OpenSpec.upto ramCopiesSpec)

end Rows
end Go.Proofs.Ytlodeejeeldplaa
