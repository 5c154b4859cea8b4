/-
  A pool of which the first sections of each zone are on line: how many frames are free.
  Conditions: those that each line bears.
-/
import Derived.Test.YtaonpmclkafjdaaGreatQz06
import Derived.Test.YtaonpmclkafjdaaGreatQz00
import Derived.KernelRfl
set_option linter.unusedSimpArgs false
set_option linter.unusedSectionVars false
set_option linter.unusedVariables false
namespace Go.Proofs.YtaonpmclkafjdaaGreat
open Go.RowKit
set_option linter.unusedVariables false
structure OnS (p:PS)(a b:Nat):Prop where
  ul:p.u.length=1024
  zl:p.z.length=32
  il:p.i.length=32
  z:∀ s,s < 32→p.z.getD s 0=if s < a then 2 else if 16≤s∧s < 16+b then 3 else 0
  i:∀ s,p.i.getD s false=false
  u:∀ f,f < 1024→p.u.getD f 0=if f / 32 < a∨(16≤f / 32∧f / 32 < 16+b) then 1 else 0
theorem onS_new:OnS ps0 0 0:=⟨by rw[ps0];exact List.length_replicate,by rw[ps0];exact List.length_replicate,by rw[ps0];exact List.length_replicate,fun s hs=>by rw[ps0_z,if_neg (by omega),if_neg (by omega)],ps0_i,fun f hf=>by rw[ps0_u,if_neg (by omega)]⟩
theorem filter_len_congr {l:List Nat}{f g:Nat→Bool}(h:∀ x∈l,f x=g x):(l.filter f).length=(l.filter g).length:=by
  rw[List.filter_congr h]
end Go.Proofs.YtaonpmclkafjdaaGreat
