/-
  The library's sort of integers at this program: the row is sorted, and nothing else that was there turns.
  Conditions: those that each line bears.
-/
import Derived.Shelf.Sort.Plain
import Derived.Test.YtaonpmclkafjdaaGreatProg
set_option linter.unusedSimpArgs false
set_option linter.unusedSectionVars false
set_option linter.unusedVariables false
namespace Go.Proofs
open Go.Shelf
def Tryz.lays189_ren:Go.Shelf.Ren:=⟨fun | 189=>158 | 125=>193 | 257=>194 | 128=>224 | 129=>225 | 294=>226 | 295=>227 | 296=>228 | 297=>229 | 298=>230 | 299=>231 | 216=>232 | 300=>233 | 301=>234 | 328=>248 | 329=>244 | 330=>245 | 331=>249 | 332=>250 | 215=>156 | 343=>260 | n=>n,fun | 28=>128 | 3=>3 | 46=>274 | 0=>0 | 51=>302 | 53=>49 | 4=>4 | 183=>296 | 182=>295 | 131=>102 | 5=>5 | 9=>9 | 218=>314 | 222=>318 | 228=>327 | 229=>203 | n=>n,fun | n=>n⟩
end Go.Proofs
