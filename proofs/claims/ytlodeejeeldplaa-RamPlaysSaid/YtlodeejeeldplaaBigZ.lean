/-
  The zero values of the statement's two great arrays.
  Conditions: none.
-/
import Derived.Test.YtlodeejeeldplaaProg
import Derived.Test.YtlodeejeeldplaaPlain
import Derived.KernelRfl
namespace Go.Proofs.Ytlodeejeeldplaa
open Go.RowKit

def isZ8 : Value → Bool
  | .int .u8 n => n == 0
  | _ => false
def isZ64 : Value → Bool
  | .int .i64 n => n == 0
  | _ => false
theorem isZ8_eq {v : Value} (h : isZ8 v = true) : v = .int .u8 0 := by
  unfold isZ8 at h
  split at h
  · simp at h; rw [h]
  · cases h
theorem isZ64_eq {v : Value} (h : isZ64 v = true) : v = .int .i64 0 := by
  unfold isZ64 at h
  split at h
  · simp at h; rw [h]
  · cases h
theorem Try.zeroList : (Try.prog.info? 29).map (fun i => i.zero.map (fun z => z.cells.size == 65536 && z.cells.toList.all isZ8)) = some (some true) := by kernel_rfl
theorem Try.zeroBad : (Try.prog.info? 30).map (fun i => i.zero.map (fun z => z.cells.size == 1024 && z.cells.toList.all isZ64)) = some (some true) := by kernel_rfl
end Go.Proofs.Ytlodeejeeldplaa
