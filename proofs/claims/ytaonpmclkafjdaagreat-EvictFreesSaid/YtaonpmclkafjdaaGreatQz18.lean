/-
  A region that draws its order and holds no call is walked inside a fence as it is outside of one. Nothing of the program is named here.
  Conditions: those that each line bears.
-/
import Derived.Test.YtaonpmclkafjdaaGreatQz00
import Derived.Shelf.SlIterI.Stops
import Derived.OrdersHeld
import Derived.StillTailTactics
set_option linter.unusedSimpArgs false
set_option linter.unusedSectionVars false
set_option linter.unusedVariables false
namespace Go.Proofs.YtaonpmclkafjdaaGreat
open Go.RowKit
set_option linter.unusedVariables false
def plainOp (o:Oper):Bool :=
  match o.op with
  | .move _ | .assign _ | .load _ _ | .store _ _ _ | .binOp _ _ _ _ _ | .indexAddr _ _ _=>true
  | _=>false
def PlainRes:Result Next→Prop
  | .ok (.value _) _ | .ok .skip _ | .halt _ _=>True
  | _=>False
theorem plain_value {P:Program}{w:World}(s:Sem Value):PlainRes ((s >>= fun v=>(pure (.value v):Sem Next)).run P w):=by
  rw[Sem.run_bind]
  cases s.run P w with
  | ok v w'=>exact trivial
  | halt h w'=>exact trivial
theorem plain_skip {P:Program}{w:World}(s:Sem Unit):PlainRes ((s >>= fun _=>(pure .skip:Sem Next)).run P w):=by
  rw[Sem.run_bind]
  cases s.run P w with
  | ok v w'=>exact trivial
  | halt h w'=>exact trivial
theorem plain_res {P:Program}{w:World}{ρ:Operand→Value}{o:Oper}(hp:plainOp o=true):PlainRes ((execOp ρ o).run P w):=by
  obtain⟨dst,op,type,pos,after,guard⟩:=o
  cases op <;> first | exact absurd (show (false:Bool)=true from hp) (by decide) | exact trivial | exact plain_value _ | exact plain_skip _
theorem plain_defer {o:Oper}(hp:plainOp o=true):∀ c,o.op≠.defer c:=by
  intro c e
  unfold plainOp at hp
  rw[e] at hp
  cases hp
def OnlyNormal (Q:Exit→Act→World→Prop):Exit→Act→World→Prop:=fun e a w=>e=.normal∧Q .normal a w
theorem OnlyNormal.mk {Q:Exit→Act→World→Prop}{a:Act}{w:World}(h:Q .normal a w):OnlyNormal Q .normal a w:=⟨rfl,h⟩
theorem wpAny_tail {P:Program} {Q:Exit→Act→World→Prop} {a:Act} {W:World} {l:List Oper} (k:Nat) (hB:Region.lexTailB .any l.toArray k=true)
    (h:wpStill P l.toArray W (fun a'=>wpList P l.toArray Q (l.drop k) a' W) (l.take k) a):wpAny P .any l.toArray Q l.toArray.size (Array.replicate l.toArray.size false) a W:=by
  unfold Region.lexTailB at hB
  rw[Bool.and_eq_true,Bool.and_eq_true,Bool.and_eq_true,Bool.and_eq_true,decide_eq_true_eq] at hB
  have hk:k < l.length:=by simpa using hB.1.1.1.2
  have e1:(l.take k).length=k:=List.length_take_of_le (Nat.le_of_lt hk)
  have e2:(l.drop k).length=l.toArray.size - k:=by rw[List.length_drop];simp
  have hI:HeadInv .any l.toArray k (Array.replicate l.toArray.size false):=by
    refine⟨by simp,fun j oj _ hj=>?_,fun t _ ht=>getD_in (by simpa using ht) (getD_replicate_false _ _)⟩
    rw[getD_replicate_false] at hj
    cases hj
  have hA:=wpAnyL_lex (md:=.any) (g:=l.toArray.size - k) hB.1.1.1.1 hB.1.1.2 hB.1.2 hB.1.1.1.2 (l.take k) 0 _ a
    (fun j hj=>by rw[e1] at hj;simp[hj]) (by rw[e1];exact Nat.zero_add k) hI (by rw[e1];exact hB.2) h
  have hR:=wpAny_of_head (Q':=Q) (g:=l.toArray.size - k) (fun listed a' hL=>by
    have hS:=wpAny_of_seq (md:=.any) (Q':=Q) (l.drop k) k listed a' W (fun j=>by simp[List.getElem?_drop]) (by rw[e2];exact hL.1) hL.2
    rwa [e2] at hS) _ _ _ hA
  rwa [e1,Nat.add_sub_cancel' (by simpa using Nat.le_of_lt hk)] at hR
end Go.Proofs.YtaonpmclkafjdaaGreat
