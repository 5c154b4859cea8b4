/-
  No cell of these rows narrows 'for every input' (looked for: loops, veiled, ifaces, maps, wideKeys, modest, calm, conditions, laid).
  DERIVED. THE GIVEN ROWS OF THIS SEAT. 3 by the template 'for every input the law returns true; each argument reads behind the call as it read before'; 0 by the template 'total and deterministic' (their statements: YtggidgfmkidkjaaTotals.lean).
  GIVEN WITH THE SEED: the statements are not yours to turn. If you find one false, say at which input.
  Laid BY PROGRAM, IN A SANDBOX (cutbox-rows.mjs): the forced cells as the released guide's own fill.sh prints them over the translation 35bbcf852fea5477… (all of the seat's roots in one cut). By AI agents, Wed Nov 11 2026. No macro, syntax, notation, axiom, sorry.
-/
import Derived.Test.YtggidgfmkidkjaaChecked
import GoSem.Claim
import GoSem.ClaimJoined
import GoSem.ClaimMapViews
import Derived.JoinedTies
import Derived.KernelRfl
namespace Go.Proofs.Ytggidgfmkidkjaa
/- THE CELL 'sum', in the pinned program and in every row, IS THE sha256 OF THE DUMP (.gsa) THAT YtggidgfmkidkjaaProg.lean LOADS. Nothing in Lean hashes anything: it is a label: what it is worth is what the hold of that sum in a sandbox is worth. -/
noncomputable def Try.pinned : Pinned := { name := "ytggidgfmkidkjaa", sum := "35bbcf852fea5477a1da09f699b21707ef6e28e0ddbdf372939bf8ba9367c539", checked := Try.checked }
namespace Rows
def none {H : Type} : Left H := { results := [], args := [] }

/-- 'headlandlaw14.FilePages': WHATEVER THE INPUT: true; the input reads as it did. -/
def filePagesSpec : ChangeSpec := { name := "filePages", fn := fun _ => fun
  | [d1, d2, d3, d4] => { results := [.lit (.bool true)], args := [d1, d2, d3, d4] }
  | _ => none }
def filePagesRow : OpenClaim := { program := "ytggidgfmkidkjaa", sum := "35bbcf852fea5477a1da09f699b21707ef6e28e0ddbdf372939bf8ba9367c539", func := "headland/headlandlaw14.FilePages", spec := "filePages", apart := false }
def FilePagesSaid : Prop := filePagesRow.holds Try.pinned (OpenSpec.ofChange filePagesSpec)

/-- ITS FALSE NEIGHBOUR: 'it returns false'. Refute it at one input. -/
def filePagesWrong : ChangeSpec := { name := "filePages", fn := fun _ => fun
  | [d1, d2, d3, d4] => { results := [.lit (.bool false)], args := [d1, d2, d3, d4] }
  | _ => none }
def FilePagesWrongFalsely : Prop := filePagesRow.holds Try.pinned (OpenSpec.ofChange filePagesWrong)

/-- 'headlandlaw14.FileFails': WHATEVER THE INPUT: true; the input reads as it did. -/
def fileFailsSpec : ChangeSpec := { name := "fileFails", fn := fun _ => fun
  | [d1, d2, d3] => { results := [.lit (.bool true)], args := [d1, d2, d3] }
  | _ => none }
def fileFailsRow : OpenClaim := { program := "ytggidgfmkidkjaa", sum := "35bbcf852fea5477a1da09f699b21707ef6e28e0ddbdf372939bf8ba9367c539", func := "headland/headlandlaw14.FileFails", spec := "fileFails", apart := false }
def FileFailsSaid : Prop := fileFailsRow.holds Try.pinned (OpenSpec.ofChange fileFailsSpec)

/-- ITS FALSE NEIGHBOUR: 'it returns false'. Refute it at one input. -/
def fileFailsWrong : ChangeSpec := { name := "fileFails", fn := fun _ => fun
  | [d1, d2, d3] => { results := [.lit (.bool false)], args := [d1, d2, d3] }
  | _ => none }
def FileFailsWrongFalsely : Prop := fileFailsRow.holds Try.pinned (OpenSpec.ofChange fileFailsWrong)

/-- 'headlandlaw14.FileApart': WHATEVER THE INPUT: true; the input reads as it did. -/
def fileApartSpec : ChangeSpec := { name := "fileApart", fn := fun _ => fun
  | [d] => { results := [.lit (.bool true)], args := [d] }
  | _ => none }
def fileApartRow : OpenClaim := { program := "ytggidgfmkidkjaa", sum := "35bbcf852fea5477a1da09f699b21707ef6e28e0ddbdf372939bf8ba9367c539", func := "headland/headlandlaw14.FileApart", spec := "fileApart", recurses := true, apart := false }
def FileApartSaid : Prop := fileApartRow.holds Try.pinned (OpenSpec.ofChange fileApartSpec)

/-- ITS FALSE NEIGHBOUR: 'it returns false'. Refute it at one input. -/
def fileApartWrong : ChangeSpec := { name := "fileApart", fn := fun _ => fun
  | [d] => { results := [.lit (.bool false)], args := [d] }
  | _ => none }
def FileApartWrongFalsely : Prop := fileApartRow.holds Try.pinned (OpenSpec.ofChange fileApartWrong)

/- THE SECOND FORM. 'bulk': how many values and letters a reading holds, each counted each time it is reached (what is shared counts as often as it is met; a slice's spare places count too). A statement '..UptoSaid' is the law's where the arguments, and the package variables that the reading takes, are together of bulk at most 1048576: NARROWER than '..Said'. Prove '..Said' where nothing that the law and all that it calls make is longer than what came in: it says more and counts as full. Else prove '..UptoSaid'. A law counts once. -/
mutual
def uptoBulk {H : Type} : DataW H → Nat
  | .lit (.string bytes) => bytes.length + 1
  | .lit _ => 1
  | .nil => 1
  | .ptr d => uptoBulk d + 1
  | .slice elems spare => uptoBulkAll elems + uptoBulkAll spare + 1
  | .agg parts => uptoBulkAll parts + 1
  | .iface _ d => uptoBulk d + 1
  | .map entries => uptoBulkEntries entries + 1
  | .held _ => 1
def uptoBulkAll {H : Type} : List (DataW H) → Nat
  | [] => 0
  | d :: r => uptoBulk d + uptoBulkAll r
def uptoBulkEntries {H : Type} : List (Lit × DataW H) → Nat
  | [] => 0
  | x :: r => uptoBulkEntry x + uptoBulkEntries r
def uptoBulkEntry {H : Type} : Lit × DataW H → Nat
  | (.string bytes, d) => bytes.length + uptoBulk d + 1
  | (_, d) => uptoBulk d + 1
 end
def uptoSmall : (H : Type) → List (DataW H) → Bool := fun _ ds => decide (uptoBulkAll ds ≤ 1048576)
def OpenSpec.upto (s : _root_.Go.ChangeSpec) : _root_.Go.OpenSpec := { _root_.Go.OpenSpec.ofChange s with cond := some uptoSmall }

/-- 'headlandlaw14.FilePages', WHERE WHAT IT READS IS OF BULK AT MOST 1048576: true; the input reads as it did. -/
def filePagesUptoRow : OpenClaim := { program := "ytggidgfmkidkjaa", sum := "35bbcf852fea5477a1da09f699b21707ef6e28e0ddbdf372939bf8ba9367c539", func := "headland/headlandlaw14.FilePages", spec := "filePages", apart := false, narrowed := true }
def FilePagesUptoSaid : Prop := filePagesUptoRow.holds Try.pinned (OpenSpec.upto filePagesSpec)

/-- 'headlandlaw14.FileFails', WHERE WHAT IT READS IS OF BULK AT MOST 1048576: true; the input reads as it did. -/
def fileFailsUptoRow : OpenClaim := { program := "ytggidgfmkidkjaa", sum := "35bbcf852fea5477a1da09f699b21707ef6e28e0ddbdf372939bf8ba9367c539", func := "headland/headlandlaw14.FileFails", spec := "fileFails", apart := false, narrowed := true }
def FileFailsUptoSaid : Prop := fileFailsUptoRow.holds Try.pinned (OpenSpec.upto fileFailsSpec)

/-- 'headlandlaw14.FileApart', WHERE WHAT IT READS IS OF BULK AT MOST 1048576: true; the input reads as it did. -/
def fileApartUptoRow : OpenClaim := { program := "ytggidgfmkidkjaa", sum := "35bbcf852fea5477a1da09f699b21707ef6e28e0ddbdf372939bf8ba9367c539", func := "headland/headlandlaw14.FileApart", spec := "fileApart", recurses := true, apart := false, narrowed := true }
def FileApartUptoSaid : Prop := fileApartUptoRow.holds Try.pinned (OpenSpec.upto fileApartSpec)

end Rows
end Go.Proofs.Ytggidgfmkidkjaa
