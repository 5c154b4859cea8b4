/-
  Lists of areas in memory: read, cut, and as a call's own row. Nothing of the program is named here.
  Conditions: those that each line bears.
-/
import Derived.Test.YtaonpmclkafjdaaGreatQz01
import Derived.Test.YtaonpmclkafjdaaGreatQz00
import Derived.Test.YtaonpmclkafjdaaGreatQz16
set_option linter.unusedSimpArgs false
set_option linter.unusedSectionVars false
set_option linter.unusedVariables false
namespace Go.Proofs.YtaonpmclkafjdaaGreat
open Go.RowKit
set_option linter.unusedVariables false
theorem belAr {w W:World}(h:Below w.heap.size w W)(o:Obj):Below w.heap.size w (W.alloc o):=h.alloc h.size o
section
variable {w w':World}{B:Nat}{v:Value}{l:List Ar}
theorem Gs.of_own {base n:Nat}{e:TypeId}(h:w.ownsRow base e 6 v n (flatA l))(hn:l.length=n):Ars w w.heap.size v l:=by
  have hlt:=fun k hk=>(h.lt k hk).2
  rcases h.2 with ⟨rfl,rfl⟩ | ⟨g,cap,cur,rfl,_,_,h3,h4,_⟩
  · obtain rfl:l=[]:=List.eq_nil_of_length_eq_zero hn
    exact Gs.nil_ _ _
  · refine⟨some ⟨g,0,none⟩,n,cap,rfl,hn,h3,h4,fun _=>⟨g,0,rfl⟩,fun h0=>⟨g,0,rfl,hlt g rfl,fun j p hj i u hu=>?_⟩⟩
    have e1:=h.cells (g:=g) rfl _ _ (flatA_at hj i u hu)
    rw[Addr.add_lit] at e1
    rw[Nat.add_assoc]
    exact e1
theorem Gs.at_ {A:Option Addr}{n c:Nat}(h:Ars w B (.slice A n c) l)(h0:0 < n):∃ b o,A=some ⟨b,o,none⟩∧b < B∧∀ j,j < n→∃ a,l[j]?=some a∧w.cell? ⟨b,o+j * 6,none⟩=some (.int .i64 a.fr)∧w.cell? ⟨b,o+j * 6+1,none⟩=some (.int .i64 a.pg)∧w.cell? ⟨b,o+j * 6+2,none⟩=some (.bool a.w)∧w.cell? ⟨b,o+j * 6+3,none⟩=some (.int .i64 a.kd)∧w.cell? ⟨b,o+j * 6+4,none⟩=some (.int .i64 a.fl)∧w.cell? ⟨b,o+j * 6+5,none⟩=some (.int .i64 a.ofs):=by
  obtain⟨A',n',c2,e,h2,h3,h4,h5,h7⟩:=h
  injection e with e1 e2 e3
  subst e1 e2 e3
  obtain⟨b,o,e,hb,hc⟩:=h7 h0
  refine⟨b,o,e,hb,fun j hj=>?_⟩
  have hg:l[j]?=some l[j]:=List.getElem?_eq_getElem (by omega)
  exact⟨_,hg,hc j _ hg 0 _ rfl,hc j _ hg 1 _ rfl,hc j _ hg 2 _ rfl,hc j _ hg 3 _ rfl,hc j _ hg 4 _ rfl,hc j _ hg 5 _ rfl⟩
end
section
variable {P:Program}{w:World}
theorem wpList_app {ops:Array Oper} {rest:List Oper} {o:Oper} {a:Act} {Q:Exit→Act→World→Prop} (hgd:o.guard=none) (s x:Operand) (t:TypeId)
    (ho:o.op=.call { callee:=.builtin .append,args:=#[s,x],argTypes:=#[t,t] })
    (base:Nat) (e:TypeId) (i:TypeInfo) (z:Value) (size bytes:Nat) (ht:P.underlying t=some (.slice e)) (hi:P.info? e=some i) (hz:i.zero=some z)
    (hsize:i.size=size) (hby:i.bytes=bytes) (hzs:z.cells.size=size) (hsz:0 < size)
    (v:Value) (n:Nat) (xs:List Value) (hs:a.eval s=v) (hown:w.ownsRow base e size v n xs) (u:Value) (m:Nat) (ys:List Value) (hx:a.eval x=u) (hr:Rd w size u m ys)
    (h63:n+m≤maxLen) (hbytes:(n+m) * bytes≤140737488355328) (hbase:base≤w.heap.size)
    (hK:∀ v' w',w'.ownsRow base e size v' (n+m) (xs ++ ys)→w.grownBy w' v.ownBlock→wpList P ops Q rest (a.put o.dst v') w'):wpList P ops Q (o :: rest) a w:=by
  refine wpList_plain hgd fun K hK'=>?_
  obtain⟨v',w',hrun,r1,r2⟩:=run_app (P:=P) base t o.type e i z size bytes ht hi hz hsize hby hzs hsz v n xs hown u m ys hr h63 hbytes hbase
  unfold Oper.wp
  simp[execOp,ho,resolve,invoke,builtin,hs,hx,hrun,Result.andThen]
  exact hK' _ _ (hK v' w' r1 r2)
end
end Go.Proofs.YtaonpmclkafjdaaGreat
