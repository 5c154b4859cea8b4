/-
  The contract of disk's Crash; what a crash leaves; what a journal's disk has.
  Conditions: those that each line bears.
-/
import Derived.Test.YtaonpmclkafjdaaGreatQa00
import Derived.Shelf.Sort.Plain
import Derived.OwnWalk
import Derived.Test.YtaonpmclkafjdaaGreatQa04
import Derived.Test.YtaonpmclkafjdaaGreatQa52
set_option linter.unusedSimpArgs false
set_option linter.unusedSectionVars false
set_option linter.unusedVariables false
namespace Go.Proofs.YtaonpmclkafjdaaGreat
open Go.RowKit Go.Sort
set_option linter.unusedVariables false
abbrev nv (j:Nat):Value:=.int .i64 (j:Int)
def dkeysL (n:Nat)(L:Nat→Option (List Nat)):List Nat:=(List.range n).filter fun j=>(L j).isSome
def Coll (L:Nat→Option (List Nat))(left:Nat→Bool)(ss:List Nat):Prop:=ss.Nodup∧∀ j,j∈ss↔((L j).isSome=true∧left j=false)
section
variable {n:Nat}{L:Nat→Option (List Nat)}{left:Nat→Bool}{ss:List Nat}
end
section
variable {w:World}{base g cap n:Nat}{e:TypeId}{os:Array Obj}{cur:Array Value}
end
section
variable {P:Program}{k t e:TypeId}{w w':World}{b r n cnt:Nat}{L:Nat→Option (List Nat)}{left:Nat→Bool}
end
end Go.Proofs.YtaonpmclkafjdaaGreat
namespace Go.Proofs.YtaonpmclkafjdaaGreat
open Go.RowKit Go.Sort
set_option linter.unusedVariables false
def NumsPost (w:World)(ks:List Nat)(nn:Bool)(e:Ending)(w':World):Prop :=
  ∃ v,e=.returned v∧w'.ownsRow w.heap.size 3 1 v ks.length (ks.map nv)∧Below w.heap.size w w'∧(v=.slice none 0 0→nn=true)
def LooseAt (w:World)(gM r n:Nat)(L:Nat→Option (List Nat))(v:Value)(wr:World):Prop :=
  ∃ left cnt ss,Ran Tryz.prog 3 wr gM r n L left cnt∧wr.ownsRow w.heap.size 3 1 v ss.length (ss.map nv)∧v≠.slice none 0 0∧Coll L left ss∧Below w.heap.size w wr
end Go.Proofs.YtaonpmclkafjdaaGreat
namespace Go.Proofs.YtaonpmclkafjdaaGreat
open Go.RowKit
set_option linter.unusedVariables false
def keptN (ks:List Nat)(K:Nat):Nat→List Nat
  | 0=>[]
  | m+1=>if K.testBit m=true then keptN ks K m ++ [ks.getD m 0] else keptN ks K m
def keptL (ks:List Nat)(K:Nat):List Nat:=keptN ks K ks.length
def KeptAt (w1:World)(ks:List Nat)(K k:Nat)(v:Value)(wr:World):Prop :=
  wr.ownsRow w1.heap.size 3 1 v (keptN ks K k).length ((keptN ks K k).map nv)∧Below w1.heap.size w1 wr
end Go.Proofs.YtaonpmclkafjdaaGreat
namespace Go.Proofs.YtaonpmclkafjdaaGreat
open Go.RowKit
set_option linter.unusedVariables false
def crashN (S:Nat→List Nat)(L:Nat→Option (List Nat))(ks:List Nat)(tn:Nat):Nat→Nat→List Nat
  | 0=>S
  | m+1=>upd (crashN S L ks tn m) (ks.getD m 0) (over (crashN S L ks tn m (ks.getD m 0)) 0 (((L (ks.getD m 0)).getD zer).take (if m+1=ks.length then tn else 64)))
def crashL (S:Nat→List Nat)(L:Nat→Option (List Nat))(ks:List Nat)(tn:Nat):Nat→List Nat:=crashN S L ks tn ks.length
def Near64 (k:Int)(n:Nat):Prop:=(k≤0∧n=0)∨(64≤k∧n=64)∨(0≤k∧k≤64∧k=n)
section
variable {w w':World}{gD gS gM n:Nat}{S:Nat→List Nat}{L:Nat→Option (List Nat)}{t:Tr}
end
def CrashAt (w1:World)(gD gS gM n:Nat)(S:Nat→List Nat)(L:Nat→Option (List Nat))(t:Tr)(ks:List Nat)(tn k:Nat)(wr:World):Prop :=
  Dsk wr gD gS gM n (crashN S L ks tn k) L t∧Turns (dk gD gS gM) w1 wr
def DCrashPost (w:World)(gD gS gM n:Nat)(S:Nat→List Nat)(L:Nat→Option (List Nat))(ks:List Nat)(tn:Nat)(e:Ending)(w':World):Prop :=
  e=.returned (.tuple #[])∧Dsk w' gD gS gM n (crashL S L ks tn) (fun _=>none) Tr.none_∧Turns (dk gD gS gM) w w'
end Go.Proofs.YtaonpmclkafjdaaGreat
namespace Go.Proofs.YtaonpmclkafjdaaGreat
open Go.RowKit
end Go.Proofs.YtaonpmclkafjdaaGreat
namespace Go.Proofs.YtaonpmclkafjdaaGreat
open Go.RowKit
set_option linter.unusedVariables false
def SInv (S:Nat→List Nat)(g:Nat)(now:List Nat):Prop :=
  (g=0∧now=[]∧S 64=zer∧S 80=zer) ∨
  (0 < g∧g < 4294967295∧now.length≤960∧S (64+16 * (g % 2))=hedL g now∧(sloA S (g % 2)).take now.length=now∧sloG S (1 - g % 2) < g)
def looL (L:Nat→Option (List Nat))(g:Nat)(b:List Nat)(k:Nat):Nat→Option (List Nat):=fun f=>if 65+16 * (g % 2)≤f∧f < 65+16 * (g % 2)+k then some (chk b (f - (65+16 * (g % 2)))) else L f
end Go.Proofs.YtaonpmclkafjdaaGreat
namespace Go.Proofs.YtaonpmclkafjdaaGreat
open Go.RowKit
set_option linter.unusedVariables false
def Val (S:Nat→List Nat)(L:Nat→Option (List Nat))(f:Nat)(y:List Nat):Prop:=y=S f∨L f=some y
structure JInv (g:Nat)(nb:List Nat)(rs xs bs:List (List Nat))(S:Nat→List Nat)(L:Nat→Option (List Nat)):Prop where
  few:rs.length≤64
  short:∀ j,j < rs.length→(rs.getD j []).length≤50
  xshort:∀ x∈xs,x.length≤50
  bshort:∀ b∈bs,b.length≤960
  logd:∀ f,f < rs.length→S f=secL g f (rs.getD f [])∧L f=none
  next:∀ y,Val S L rs.length y→rs.length < 64→¬ IsRec y g rs.length∨∃ x∈xs,y=secL g rs.length x
  behind:∀ f y,rs.length < f→f < 64→Val S L f y→¬ IsRec y g f
  fresh:∀ f y g',f < 64→Val S L f y→g < g'→g' < 4294967296→¬ IsRec y g' f
  own:(g=0∧nb=[]∧S 64=zer∧L 64=none)∨(0 < g∧nb.length≤960∧S (64+16 * (g % 2))=hedL g nb∧(sloA S (g % 2)).take nb.length=nb∧∀ f,64+16 * (g % 2)≤f→f < 80+16 * (g % 2)→L f=none)
  other:∀ y,Val S L (64+16 * ((g+1) % 2)) y→(y=zer∨le (win y 0 4) < g)∨∃ b∈bs,y=hedL (g+1) b
section
variable {g:Nat}{nb:List Nat}{rs xs bs:List (List Nat)}{S:Nat→List Nat}{L:Nat→Option (List Nat)}
end
end Go.Proofs.YtaonpmclkafjdaaGreat
