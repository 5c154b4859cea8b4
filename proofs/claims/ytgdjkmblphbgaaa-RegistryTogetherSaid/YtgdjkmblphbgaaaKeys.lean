/-
  The library's maps.Keys and slices.Sorted at this program.
  Conditions: the map's keys are integers.
-/
import Derived.Shelf.SlGeneric
import Derived.Shelf.SlIterI.Stops
import Derived.Shelf.SlIterI.Sorted
import Derived.Ground.GgzProg
import Derived.Test.YtgdjkmblphbgaaaProg
namespace Go.Proofs
open Go.Shelf
def Try.keysM22_ren : Go.Shelf.Ren := ⟨fun | 7 => 22 | 10 => 36 | n => n, fun | 23 => 58 | 26 => 3 | 3 => 67 | 28 => 65 | 0 => 0 | 27 => 64 | 33 => 42 | 4 => 4 | n => n, fun | n => n⟩
theorem Try.keysM22 : Go.Proofs.SlLaysZI.n7 Try.prog Try.keysM22_ren := {
  mixed := by kernel_rfl
  f7 := ⟨Try.f22.name, by decide, Try.func22.trans (congrArg some (by kernel_rfl))⟩
  f10 := ⟨Try.f36.name, by decide, Try.func36.trans (congrArg some (by kernel_rfl))⟩
  t0 := Try.underlying0
  a0 := Try.isAgg0
  z0 := Try.sizeOf0
  v0 := Try.zeroValue0
  t4 := Try.underlying4
  a4 := Try.isAgg4
  z4 := Try.sizeOf4
  v4 := Try.zeroValue4
  t23 := Try.underlying58
  a23 := Try.isAgg58
  z23 := Try.sizeOf58
  v23 := Try.zeroValue58
  t26 := Try.underlying3
  a26 := Try.isAgg3
  z26 := Try.sizeOf3
  v26 := Try.zeroValue3
  t27 := Try.underlying64
  a27 := Try.isAgg64
  z27 := Try.sizeOf64
  v27 := Try.zeroValue64
  t28 := Try.underlying65
  a28 := Try.isAgg65
  z28 := Try.sizeOf65
  v28 := Try.zeroValue65
  t33 := Try.underlying42
  a33 := Try.isAgg42
  z33 := Try.sizeOf42
  v33 := Try.zeroValue42 }
def Try.sortedM21_ren : Go.Shelf.Ren := ⟨fun | 6 => 21 | 8 => 34 | 9 => 35 | 11 => 50 | 13 => 52 | 12 => 51 | 23 => 74 | 24 => 75 | 14 => 65 | 15 => 66 | 16 => 67 | 17 => 68 | 18 => 69 | 19 => 70 | 20 => 71 | 21 => 72 | 22 => 73 | 25 => 79 | 26 => 80 | 27 => 81 | 28 => 82 | 29 => 83 | 30 => 84 | 31 => 90 | n => n, fun | 26 => 3 | 28 => 65 | 24 => 31 | 0 => 0 | 3 => 3 | 37 => 99 | 48 => 76 | 50 => 37 | 4 => 4 | 40 => 110 | 39 => 109 | 45 => 114 | 5 => 5 | 9 => 9 | 51 => 121 | 55 => 125 | 57 => 131 | 58 => 132 | 33 => 42 | n => n, fun | n => n⟩
theorem Try.sortedM21 : Go.Proofs.SlLaysZI.n6 Try.prog Try.sortedM21_ren := {
  mixed := by kernel_rfl
  f6 := ⟨Try.f21.name, by decide, Try.func21.trans (congrArg some (by kernel_rfl))⟩
  f8 := ⟨Try.f34.name, by decide, Try.func34.trans (congrArg some (by kernel_rfl))⟩
  f11 := ⟨Try.f50.name, by decide, Try.func50.trans (congrArg some (by kernel_rfl))⟩
  t0 := Try.underlying0
  a0 := Try.isAgg0
  z0 := Try.sizeOf0
  v0 := Try.zeroValue0
  t24 := Try.underlying31
  a24 := Try.isAgg31
  z24 := Try.sizeOf31
  v24 := Try.zeroValue31
  t26 := Try.underlying3
  a26 := Try.isAgg3
  z26 := Try.sizeOf3
  v26 := Try.zeroValue3
  t28 := Try.underlying65
  a28 := Try.isAgg65
  z28 := Try.sizeOf65
  v28 := Try.zeroValue65
  i26 := by kernel_rfl }
end Go.Proofs
