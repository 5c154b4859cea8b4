/-
  The library's slices.SortFunc and cmp.Compare at this program.
  Conditions: those that each line bears.
-/
import Derived.Shelf.SlGeneric
import Derived.Shelf.SlSortCmp.WholeK
import Derived.Shelf.SlicesG.Cmp
import Derived.Ground.SlsfProg
import Derived.Ground.SlgcProg
import Derived.Test.YtaonpmclkafjdaaGreatProg
set_option linter.unusedSimpArgs false
set_option linter.unusedSectionVars false
set_option linter.unusedVariables false
namespace Go.Proofs
open Go.Shelf
def Tryz.sortF196_ren:Go.Shelf.Ren:=⟨fun | 6=>196 | 15=>193 | 14=>236 | 28=>224 | 29=>225 | 20=>251 | 21=>252 | 22=>253 | 23=>254 | 24=>255 | 25=>256 | 26=>257 | 27=>258 | 46=>261 | 47=>244 | 48=>245 | 49=>262 | 50=>263 | 57=>264 | n=>n,fun | 22=>181 | 24=>60 | 25=>251 | 3=>3 | 39=>274 | 0=>0 | 53=>302 | 55=>49 | 4=>4 | 46=>296 | 45=>295 | 50=>102 | 5=>5 | 9=>9 | 66=>314 | 70=>318 | 76=>327 | 77=>203 | n=>n,fun | n=>n⟩
theorem Tryz.sortF196:Go.Proofs.SlLaysF0.n6 Tryz.prog Tryz.sortF196_ren:={
  mixed:=by kernel_rfl
  f6:=⟨Tryz.f196.name,by decide,Tryz.func196.trans (congrArg some (by kernel_rfl))⟩
  f14:=⟨Tryz.f236.name,by decide,Tryz.func236.trans (congrArg some (by kernel_rfl))⟩
  f15:=Tryz.func193.trans (congrArg some (by kernel_rfl))
  f20:=⟨Tryz.f251.name,by decide,Tryz.func251.trans (congrArg some (by kernel_rfl))⟩
  f21:=⟨Tryz.f252.name,by decide,Tryz.func252.trans (congrArg some (by kernel_rfl))⟩
  f22:=⟨Tryz.f253.name,by decide,Tryz.func253.trans (congrArg some (by kernel_rfl))⟩
  f23:=⟨Tryz.f254.name,by decide,Tryz.func254.trans (congrArg some (by kernel_rfl))⟩
  f24:=⟨Tryz.f255.name,by decide,Tryz.func255.trans (congrArg some (by kernel_rfl))⟩
  f25:=⟨Tryz.f256.name,by decide,Tryz.func256.trans (congrArg some (by kernel_rfl))⟩
  f26:=⟨Tryz.f257.name,by decide,Tryz.func257.trans (congrArg some (by kernel_rfl))⟩
  f27:=⟨Tryz.f258.name,by decide,Tryz.func258.trans (congrArg some (by kernel_rfl))⟩
  f28:=Tryz.func224.trans (congrArg some (by kernel_rfl))
  f29:=Tryz.func225.trans (congrArg some (by kernel_rfl))
  f46:=⟨Tryz.f261.name,by decide,Tryz.func261.trans (congrArg some (by kernel_rfl))⟩
  f47:=Tryz.func244.trans (congrArg some (by kernel_rfl))
  f48:=Tryz.func245.trans (congrArg some (by kernel_rfl))
  f49:=⟨Tryz.f262.name,by decide,Tryz.func262.trans (congrArg some (by kernel_rfl))⟩
  f50:=⟨Tryz.f263.name,by decide,Tryz.func263.trans (congrArg some (by kernel_rfl))⟩
  f57:=⟨Tryz.f264.name,by decide,Tryz.func264.trans (congrArg some (by kernel_rfl))⟩
  t0:=Tryz.underlying0
  a0:=Tryz.isAgg0
  z0:=Tryz.sizeOf0
  v0:=Tryz.zeroValue0
  t3:=Tryz.underlying3
  a3:=Tryz.isAgg3
  z3:=Tryz.sizeOf3
  v3:=Tryz.zeroValue3
  t4:=Tryz.underlying4
  a4:=Tryz.isAgg4
  z4:=Tryz.sizeOf4
  v4:=Tryz.zeroValue4
  t5:=Tryz.underlying5
  a5:=Tryz.isAgg5
  z5:=Tryz.sizeOf5
  v5:=Tryz.zeroValue5
  t9:=Tryz.underlying9
  a9:=Tryz.isAgg9
  z9:=Tryz.sizeOf9
  v9:=Tryz.zeroValue9
  t22:=Tryz.underlying181
  a22:=Tryz.isAgg181
  z22:=Tryz.sizeOf181
  v22:=Tryz.zeroValue181
  t25:=Tryz.underlying251
  a25:=Tryz.isAgg251
  z25:=Tryz.sizeOf251
  v25:=Tryz.zeroValue251
  t39:=Tryz.underlying274
  a39:=Tryz.isAgg274
  z39:=Tryz.sizeOf274
  v39:=Tryz.zeroValue274
  t45:=Tryz.underlying295
  a45:=Tryz.isAgg295
  z45:=Tryz.sizeOf295
  v45:=Tryz.zeroValue295
  t46:=Tryz.underlying296
  a46:=Tryz.isAgg296
  z46:=Tryz.sizeOf296
  v46:=Tryz.zeroValue296
  t50:=Tryz.underlying102
  a50:=Tryz.isAgg102
  z50:=Tryz.sizeOf102
  v50:=Tryz.zeroValue102
  t53:=Tryz.underlying302
  a53:=Tryz.isAgg302
  z53:=Tryz.sizeOf302
  v53:=Tryz.zeroValue302
  t55:=Tryz.underlying49
  a55:=Tryz.isAgg49
  z55:=Tryz.sizeOf49
  v55:=Tryz.zeroValue49
  t66:=Tryz.underlying314
  a66:=Tryz.isAgg314
  z66:=Tryz.sizeOf314
  v66:=Tryz.zeroValue314
  t70:=Tryz.underlying318
  a70:=Tryz.isAgg318
  z70:=Tryz.sizeOf318
  v70:=Tryz.zeroValue318
  t76:=Tryz.underlying327
  a76:=Tryz.isAgg327
  z76:=Tryz.sizeOf327
  v76:=Tryz.zeroValue327
  t77:=Tryz.underlying203
  a77:=Tryz.isAgg203
  z77:=Tryz.sizeOf203
  v77:=Tryz.zeroValue203 }
def Tryz.cmpF112_ren:Go.Shelf.Ren:=⟨fun | 5=>112 | 7=>156 | n=>n,fun | 22=>3 | 3=>3 | 4=>4 | n=>n,fun | n=>n⟩
theorem Tryz.cmpF112:Go.Proofs.SlLaysC2.n5 Tryz.prog Tryz.cmpF112_ren:={
  mixed:=by kernel_rfl
  f5:=⟨Tryz.f112.name,by decide,Tryz.func112.trans (congrArg some (by kernel_rfl))⟩
  f7:=⟨Tryz.f156.name,by decide,Tryz.func156.trans (congrArg some (by kernel_rfl))⟩
  t3:=Tryz.underlying3
  a3:=Tryz.isAgg3
  z3:=Tryz.sizeOf3
  v3:=Tryz.zeroValue3
  t4:=Tryz.underlying4
  a4:=Tryz.isAgg4
  z4:=Tryz.sizeOf4
  v4:=Tryz.zeroValue4
  t22:=Tryz.underlying3
  a22:=Tryz.isAgg3
  z22:=Tryz.sizeOf3
  v22:=Tryz.zeroValue3 }
end Go.Proofs
