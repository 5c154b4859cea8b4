/-
  The contracts of a tree's put, Get, Set, Tables, Owns, Close and New.
  The contracts of a tree, as the statements' walks ask for them.
  Conditions: those that each line bears.
-/
import Derived.Test.YtaonpmclkafjdaaGreatQz17
import Derived.Test.YtaonpmclkafjdaaGreatQz18
import Derived.RangeFuncBox
import Derived.RangeFuncLeaves
import Derived.RangeFuncWrites
import Derived.RangeFuncCalls
import Derived.LoopNIn
import Derived.LoopIn
import Derived.Test.YtaonpmclkafjdaaGreatQz00
import Derived.Deep.RegionHeld3
import Derived.Test.YtaonpmclkafjdaaGreatQz12
set_option linter.unusedSimpArgs false
set_option linter.unusedSectionVars false
set_option linter.unusedVariables false
namespace Go.Proofs.YtaonpmclkafjdaaGreat
open Go.RowKit Go.Shelf
set_option linter.unusedVariables false
attribute [local go_sem] Oper.semAt_some
def KeepBG (b g:Nat)(W W':World):Prop:=W'.heap[b]?=W.heap[b]?∧W'.heap[g]?=W.heap[g]?
theorem KeepBG.refl (b g:Nat)(W:World):KeepBG b g W W:=⟨rfl,rfl⟩
theorem KeepBG.trans {b g:Nat}{A B C:World}(h:KeepBG b g A B)(k:KeepBG b g B C):KeepBG b g A C:=⟨k.1.trans h.1,k.2.trans h.2⟩
def downs (k:Nat):List (Fin 4):=([3,2,1,0]:List (Fin 4)).take k
theorem downs_succ {j:Nat}(hj:j < 4):downs (4 - (j+1)) ++ [⟨j,hj⟩]=downs (4 - j):=by
  rcases four hj with rfl | rfl | rfl | rfl <;> rfl
def vI:Value→Int
  | .int _ z=>z
  | _=>0
def encW (way:List Nat)(x:Fin 4):Array Value:=#[.int .i64 ((x.1:Nat):Int),.int .i64 ((way.getD x.1 0:Nat):Int)]
set_option maxRecDepth 100000 in
set_option maxHeartbeats 1000000 in
theorem backward_any {n:Nat} (hn:1≤n) (Bx b o cap:Nat) (way:List Nat) (w:World) (hBx:Bx < w.heap.size) (hb:b < w.heap.size) (hx:w.cell? ⟨Bx,0,none⟩=some (.slice (some ⟨b,o,none⟩) 4 cap))
    (hc:∀ j,j < 4→w.cell? ⟨b,o+j,none⟩=some (.int .i64 ((way.getD j 0:Nat):Int))) :
    SeqStopsK Fence.wide n Tryz.prog 241 #[.pointer (some ⟨Bx,0,none⟩)] (encW way) (KeepBG b Bx) (fun ys=>ys=downs 4) (fun _=>True) 4 w:=by
  intro l J Jx W hW hJ _ hY h0
  have hx':W.cell? ⟨Bx,0,none⟩=some (.slice (some ⟨b,o,none⟩) 4 cap):=(hW.cell (p:=⟨Bx,0,none⟩) hBx).trans hx
  have hc':∀ j,j < 4→W.cell? ⟨b,o+j,none⟩=some (.int .i64 ((way.getD j 0:Nat):Int)):=fun j hj=>(hW.cell (p:=⟨b,o+j,none⟩) hb).trans (hc j hj)
  have HC:=Lib.hid hc'
  have HY:=Lib.hid hY
  clear hx hc hc' hY
  refine callsIn_of_wp Tryz.func241 rfl trivial ?_ rfl
  simp only[Tryz.ntmps241,List.size_toArray,List.length_cons,List.length_nil,Nat.reduceAdd,Nat.reduceSub,Array.replicate_succ,Array.replicate_zero,List.push_toArray,List.append_toArray,List.nil_append,List.cons_append]
  gi_wp2
  gi_loopw [3] (fun i wr=>∃ j:Nat,j≤4∧i=.int .i64 ((j:Int) - 1)∧J (downs (4 - j)) wr∧KeepBG b Bx W wr)
    (fun i _=>(vI i+1).toNat)
  case atStart=>exact⟨4,Nat.le_refl _,rfl,h0,KeepBG.refl _ _ _⟩
  case round =>
    obtain⟨j,hj,rfl,hJs,hkp⟩:=hrel
    have HK:=Lib.hid hkp
    have cx:wr.cell? ⟨Bx,0,none⟩=some (.slice (some ⟨b,o,none⟩) 4 cap):=(World.cell?_of_block hkp.2).trans hx'
    cases j with
    | zero =>
      gi_wp2
      go_end0
      exact⟨⟨_,rfl⟩,.inl ⟨downs 4,rfl,hJs⟩⟩
    | succ j =>
      have hj4:j < 4:=by omega
      have cb:wr.cell? ⟨b,o+j,none⟩=some (.int .i64 ((way.getD j 0:Nat):Int)):=(World.cell?_of_block hkp.1).trans (HC.out j hj4)
      obtain⟨fn,tmps,assign,body,hy,hR⟩:=HY.out (downs (4 - (j+1))) ⟨j,hj4⟩ wr hJs (by unfold downs;rw[List.length_take];simp;omega)
      unfold encW at hy
      dsimp only at hy
      obtain⟨y,hyy⟩:∃ y,y=way.getD j 0:=⟨_,rfl⟩
      rw[← hyy] at hy cb
      have e1:(((j+1:Nat):Int) - 1)=(j:Int):=by omega
      rw[e1]
      have t1:decide ((0:Int)≤(j:Int))=true:=decide_eq_true (by omega)
      have t2:(j:Int) < 4:=by omega
      have t3:(0:Int)≤(j:Int):=by omega
      rw[downs_succ hj4] at hR
      clear hkp hyy hx'
      gi_wp2
      refine hR.mono ?_
      rintro e W3 (⟨rfl,hJ3,hk3⟩ | ⟨rfl,hJx3⟩)
      · gi_wp2
        go_roundw
        case rel=>exact⟨j,by omega,by go_num,hJ3,HK.out.trans hk3⟩
        case measure=>simp[vI]
      · gi_wp2
        refine bodyPost_ret (results_none rfl _ _ _) rfl ?_
        exact⟨⟨_,rfl⟩,.inr ⟨_,trivial,hJx3⟩⟩
def CallRes:Result Next→Prop
  | .ok (.value _) _ | .ok .skip _ | .ok (.enter _ _) _ | .halt _ _=>True
  | _=>False
theorem callRes_of_plain {r:Result Next}(h:PlainRes r):CallRes r:=by
  match r,h with
  | .ok (.value _) _,_=>exact trivial
  | .ok .skip _,_=>exact trivial
  | .halt _ _,_=>exact trivial
def OkIn (P:Program)(o:Oper):Prop:=(∀ c,o.op≠.defer c)∧∀ (a:Act) (w:World),CallRes ((execOp a.eval o).run P w)
theorem OkIn.of_plain {P:Program}{o:Oper}(h:plainOp o=true):OkIn P o:=⟨plain_defer h,fun ρ w=>callRes_of_plain (plain_res h)⟩
theorem upon_in2 {l n:Nat}{P:Program}{o:Oper}{a:Act}{K:Act→World→Prop}{Q:Exit→Act→World→Prop}{r:Result Next}(hr:CallRes r)(h:o.upon P a K Q r):o.uponIn (Fence.wide.inRound l) n P a K Q r:=by
  match r,hr,h with
  | .ok (.value v) w',_,h=>exact h
  | .ok .skip w',_,h=>exact h
  | .ok (.enter f args) w',_,h=>exact⟨fun e=>(by cases e),CallsIn.inRound l (callsIn_wide.2 h)⟩
  | .halt (.panic v) w',_,h=>exact h
theorem wpOpIn_of2 {l n:Nat} {P:Program} {ops:Array Oper} {Q:Exit→Act→World→Prop} {i:Nat} {K K':Act→World→Prop} {a:Act} {w:World} (hp:∀ o∈ops,OkIn P o) (hL:¬ LetsOut Q) (hK:∀ a w,K a w→K' a w)
    (h:wpOp P ops Q i K a w):wpOpIn (Fence.wide.inRound l) n P ops Q i K' a w:=by
  unfold wpOp at h
  unfold wpOpIn
  cases ho:ops[i]? with
  | none=>rw[ho] at h;exact hK _ _ h
  | some o =>
    rw[ho] at h
    have hpo:=hp o (Array.mem_of_getElem? ho)
    have hab:∀ f,o.about P w a.eval=some f→(Fence.wide.inRound l).fn f:=fun f _=>trivial
    simp only at h ⊢
    split at h
    · rename_i hw
      rw[if_pos hw]
      rcases h with h | h
      · refine⟨hab,?_⟩
        rw[Oper.semAt_eq _ _ _ hpo.1]
        exact upon_in2 (hpo.2 _ _) (Oper.wp_mono hK h)
      · exact absurd h.2 hL
    · rename_i hw
      rw[if_neg hw]
      exact⟨hab,hK _ _ h⟩
theorem wpAnyIn_of2 {l n:Nat} {P:Program} {md:Region.Mode} {ops:Array Oper} {Q:Exit→Act→World→Prop} (hp:∀ o∈ops,OkIn P o) (hL:¬ LetsOut Q) :
    ∀ (fuel:Nat) (listed:Array Bool) (a:Act) (w:World),wpAny P md ops Q fuel listed a w→wpAnyIn (Fence.wide.inRound l) n P md ops Q fuel listed a w
  | 0,_,_,_,h=>h
  | fuel+1,listed,a,w,h=>⟨h.1,fun i hi=>wpOpIn_of2 hp hL (fun a' w' h'=>wpAnyIn_of2 hp hL fuel _ a' w' h') (h.2 i hi)⟩
theorem wpIn_region_tail2 {l n:Nat} {P:Program} {id:Nat} {os:List Oper} {Q:Exit→Act→World→Prop} {a:Act} {w:World} (k:Nat) (hm:P.follows .mixedOrders=true) (hp:∀ o∈os,OkIn P o) (hB:Region.lexTailB .any os.toArray k=true)
    (h:wpStill P os.toArray w.drew (fun a'=>wpList P os.toArray (OnlyNormal Q) (os.drop k) a' w.drew) (os.take k) a):(Code.region id os.toArray true).wpIn (Fence.wide.inRound l) n P Q a w:=by
  refine Code.wpIn_mono (Q:=OnlyNormal Q) ?_ (wpIn_region_any hm (wpAnyIn_of2 (fun o ho=>?_) ?_ _ _ _ _ (wpAny_tail k hB h)))
  · rintro e a' w' ⟨rfl,h⟩
    exact h
  · exact hp o (by simpa using ho)
  · rintro⟨a',w',h1,_⟩
    cases h1
theorem okIn_call {P:Program}{o:Oper}{c:Call}{f:Nat}(ho:o.op=.call c)(hf:c.callee=.value (.func f))(he:∀ args w,(callFunc f args).run P w=.ok (.enter f args) w):OkIn P o:=by
  refine⟨fun c' e=>?_,fun a w=>?_⟩
  · rw[ho] at e;cases e
  · have e:(execOp a.eval o).run P w=.ok (.enter f (c.args.map a.eval)) w:=by
      simp only[execOp,ho,resolve,hf]
      simp[Act.eval,Deferred.ofValue,invoke,he,go_sem]
    rw[e]
    exact trivial
end Go.Proofs.YtaonpmclkafjdaaGreat
namespace Go.Proofs.YtaonpmclkafjdaaGreat
open Go.RowKit Go.Shelf
set_option linter.unusedVariables false
attribute [local go_sem] Oper.semAt_some
def goPut (way:List Nat)(page:Nat)(s:PutS)(pre:List (Fin 4)):PutS:=pre.foldl (fun s i=>putStep way page s i.1) s
theorem goPut_snoc (way:List Nat)(page:Nat)(s:PutS)(pre:List (Fin 4))(i:Fin 4):goPut way page s (pre ++ [i])=putStep way page (goPut way page s pre) i.1:=by
  unfold goPut
  rw[List.foldl_append]
  rfl
structure PutW (w0:World)(gT gR gF gP r gS gL B:Nat)(bad:Nat→Bool)(page:Nat)(s:PutS)(W:World):Prop where
  mem:Mem W gR gF 1024 s.F bad
  pool:PoolIn W gP s.p
  st:SetAt W gS gL s.b
  tr:TreeB W gT gR gP r gS
  c4:Blk W B 31 #[.pointer (some ⟨gT,0,none⟩)]
  c6:Blk W (B+1) 98 (digV page)
  c7:Blk W (B+2) 49 #[.int .u64 (s.v:Int)]
  v:s.v < 18446744073709551616
  turns:Turns (fun k=>k=gP∨k=gS∨k=gL∨k=gF) w0 W
  big:B+4≤W.heap.size
def MB (gP gS gL gF B:Nat):Nat→Prop:=fun k=>k=gP∨k=gS∨k=gL∨k=gF∨k=B+2
theorem PutW.next {w0 W W':World} {gT gR gF gP r gS gL B:Nat} {bad:Nat→Bool} {page:Nat} {s s':PutS} (h:PutW w0 gT gR gF gP r gS gL B bad page s W) (hB:B=w0.heap.size) (hl:gP < B∧gS < B∧gL < B∧gF < B∧gT≠gP∧gT≠gS∧gT≠gL∧gT≠gF∧gT < B) (ht:Turns (MB gP gS gL gF B) W W')
    (h1:Mem W' gR gF 1024 s'.F bad) (h2:PoolIn W' gP s'.p) (h3:SetAt W' gS gL s'.b) (h4:W'.heap[B+2]?=some (.cells #[.int .u64 (s'.v:Int)] 49 (0,0))) (h5:s'.v < 18446744073709551616):PutW w0 gT gR gF gP r gS gL B bad page s' W':=by
  obtain⟨l1,l2,l3,l4,l5,l6,l7,l8,l9⟩:=hl
  exact { mem:=h1,pool:=h2,st:=h3,tr:=ht.blk h.tr (by unfold MB;rintro (e | e | e | e | e) <;> omega),c4:=ht.blk h.c4 (by unfold MB;rintro (e | e | e | e | e) <;> omega),c6:=ht.blk h.c6 (by unfold MB;rintro (e | e | e | e | e) <;> omega),c7:=h4,v:=h5,big:=Nat.le_trans h.big ht.size,turns:=⟨ht.os.trans h.turns.os,ht.tape.trans h.turns.tape,ht.output.trans h.turns.output,Nat.le_trans h.turns.size ht.size,fun k hk hn=>(ht.block k (Nat.lt_of_lt_of_le hk h.turns.size) (by unfold MB;rintro (e | e | e | e | e);exact hn (.inl e);exact hn (.inr (.inl e));exact hn (.inr (.inr (.inl e)));exact hn (.inr (.inr (.inr e)));omega)).trans (h.turns.block k hk hn)⟩ }
theorem keeps_of {W W':World}{gP gS gL gF B N:Nat}(ht:Turns (MB gP gS gL gF B) W W')(h:gP < N∧gS < N∧gL < N∧gF < N∧B+2 < N):KeepsFrom N W W' :=
  ⟨ht.size,fun k o hk ho _=>(ht.block k (Array.getElem?_eq_some_iff.1 ho).1 (by unfold MB;rintro (e | e | e | e | e) <;> omega)).trans ho⟩
theorem keepBG_of {W W':World}{gP gS gL gF B b:Nat}(ht:Turns (MB gP gS gL gF B) W W')(hW:B+4≤W.heap.size)(hl:gP < B∧gS < B∧gL < B∧gF < B)(hb:b < B)(hk:¬ (b=gP∨b=gS∨b=gL∨b=gF)):KeepBG b (B+1+1+1) W W' :=
  ⟨ht.block b (by omega) (by unfold MB;rintro (e | e | e | e | e);exact hk (.inl e);exact hk (.inr (.inl e));exact hk (.inr (.inr (.inl e)));exact hk (.inr (.inr (.inr e)));omega),ht.block _ (by omega) (by unfold MB;rintro (e | e | e | e | e) <;> omega)⟩
theorem blk_keep {W W':World}{row:Option Nat}(hg:W.grownBy W' row)(hr:∀ r,row=some r→∃ o:Obj,W.heap[r]?=some o∧o.isCells=false){g:Nat}{t:TypeId}{cs:Array Value}(h:Blk W g t cs):W'.heap[g]?=W.heap[g]?:=by
  refine hg.block g h.lt (fun e=>?_)
  obtain⟨o,ho,hc⟩:=hr g e.symm
  have hs':W.heap[g]?=_:=h
  rw[ho] at hs'
  injection hs' with hs'
  rw[hs'] at hc
  cases hc
theorem Mem.blks {W:World}{gR gF n:Nat}{F:Nat→List Nat}{bad:Nat→Bool}(h:Mem W gR gF n F bad):(∃ t cs,Blk W gR t cs)∧∃ t cs,Blk W gF t cs:=by
  obtain⟨cur,h1,h2,_⟩:=h
  exact⟨⟨_,_,h1⟩,⟨_,_,h2⟩⟩
theorem PutW.keep {w0 W W':World}{gT gR gF gP r gS gL B:Nat}{bad:Nat→Bool}{page:Nat}{s:PutS}{row:Option Nat}(h:PutW w0 gT gR gF gP r gS gL B bad page s W)(hg:W.grownBy W' row)(hr:∀ r,row=some r→w0.heap.size≤r∧∃ o:Obj,W.heap[r]?=some o∧o.isCells=false):PutW w0 gT gR gF gP r gS gL B bad page s W':=by
  have hr':∀ r,row=some r→∃ o:Obj,W.heap[r]?=some o∧o.isCells=false:=fun r e=>(hr r e).2
  obtain⟨⟨t1,cs1,b1⟩,⟨t2,cs2,b2⟩⟩:=h.mem.blks
  have hp:PoolIn W' gP s.p:=PoolMem.far h.pool fun k hk=>by
    subst hk
    obtain⟨vs,hb,_⟩:=h.pool.2.1
    exact blk_keep hg hr' hb
  exact { mem:=h.mem.far (blk_keep hg hr' b1) (blk_keep hg hr' b2),pool:=hp,st:=h.st.far (blk_keep hg hr' h.st.1) (blk_keep hg hr' h.st.2.1),tr:=(blk_keep hg hr' h.tr).trans h.tr,c4:=(blk_keep hg hr' h.c4).trans h.c4,c6:=(blk_keep hg hr' h.c6).trans h.c6,c7:=(blk_keep hg hr' h.c7).trans h.c7,v:=h.v,big:=Nat.le_trans h.big hg.size,turns:=⟨hg.os.trans h.turns.os,hg.tape.trans h.turns.tape,hg.output.trans h.turns.output,Nat.le_trans h.turns.size hg.size,fun k hk hn=>(hg.block k (Nat.lt_of_lt_of_le hk h.turns.size) (fun e=>by have:=(hr k e.symm).1;omega)).trans (h.turns.block k hk hn)⟩ }
set_option maxRecDepth 20000 in
set_option maxHeartbeats 400000 in
theorem backward_make (A:Option Addr) (n c:Nat) (w:World) :
    Calls Tryz.prog 213 #[.slice A n c] w fun e w'=>e=.returned (.func (.func 241) #[] #[.pointer (some ⟨w.heap.size,0,none⟩)])∧w'=w.alloc (.cells #[.slice A n c] 128):=by
  go_enter Tryz.func213,Tryz.ntmps213
  go_wp2
  go_ret
  exact⟨rfl,rfl⟩
set_option maxRecDepth 100000 in
set_option maxHeartbeats 800000 in
theorem tput_any (gT gR gF gP r gS gL page b o cap:Nat) (way:List Nat) (bad:Nat→Bool) (s:PutS) (w:World)
    (hT:TreeB w gT gR gP r gS) (hM:Mem w gR gF 1024 s.F bad) (hb:∀ f,f < 1024→bad f=false) (hP:PoolIn w gP s.p) (hS:SetAt w gS gL s.b) (hD:Dif2 gT gR gF gP gS gL) (hv:s.v < 18446744073709551616)
    (hbl:b < w.heap.size) (hbk:¬ (b=gP∨b=gS∨b=gL∨b=gF)) (hc:∀ j,j < 4→w.cell? ⟨b,o+j,none⟩=some (.int .i64 ((way.getD j 0:Nat):Int))) (hwy:∀ j,j < 4→way.getD j 0 < 1024) :
    Calls Tryz.prog 189 #[.pointer (some ⟨gT,0,none⟩),.slice (some ⟨b,o,none⟩) 4 cap,.agg (digV page),.int .u64 (s.v:Int)] w fun e w'=>e=.returned (.tuple #[])∧∃ s',s'=goPut way page s (downs 4)∧Mem w' gR gF 1024 s'.F bad∧PoolIn w' gP s'.p∧SetAt w' gS gL s'.b∧Turns (fun k=>k=gP∨k=gS∨k=gL∨k=gF) w w':=by
  obtain⟨V,hV⟩:∃ V,V=digV page:=⟨_,rfl⟩
  have HV:=Lib.hid (show ∃ d0 d1 d2 d3:Nat,V=#[.int .i64 ((d0:Nat):Int),.int .i64 ((d1:Nat):Int),.int .i64 ((d2:Nat):Int),.int .i64 ((d3:Nat):Int)] from ⟨_,_,_,_,hV⟩)
  obtain⟨d0,d1,d2,d3,hd⟩:=HV.out
  rw[← hV,hd]
  have HDG:=Lib.hid (hd.symm.trans hV)
  clear hd hV HV
  have HT:=Lib.hid hT
  have HM:=Lib.hid hM
  have HBD:=Lib.hid hb
  have HP:=Lib.hid hP
  have HS:=Lib.hid hS
  have HD:=Lib.hid hD
  have HVV:=Lib.hid hv
  have HBK:=Lib.hid hbk
  have HC:=Lib.hid hc
  have HWY:=Lib.hid hwy
  clear hT hM hb hP hS hD hv hbk hc hwy
  refine (callsIn_wide (n:=8)).1 ?_
  have hro:Fence.wide.round=none:=rfl
  refine callsIn_of_wp_marks Tryz.func189 rfl trivial ?_ hro
  simp only[Tryz.ntmps189,List.size_toArray,List.length_cons,List.length_nil,Nat.reduceAdd,Nat.reduceSub,Array.replicate_succ,Array.replicate_zero,List.push_toArray,List.append_toArray,List.nil_append,List.cons_append]
  have hfB:Fence.wide.fn 213:=trivial
  gi_wp2_with (gi_at_call 213;refine (callsIn_wide.2 (backward_make _ _ _ _)).mono ?_;rintro e w' ⟨rfl,rfl⟩)
  have A1:=Lib.hid (Blk.new w 31 #[.pointer (some ⟨gT,0,none⟩)])
  obtain⟨w4,hw4⟩:∃ w4,(((w.alloc (.cells #[.pointer (some ⟨gT,0,none⟩)] 31)).alloc (.cells #[.int .i64 ((d0:Nat):Int),.int .i64 ((d1:Nat):Int),.int .i64 ((d2:Nat):Int),.int .i64 ((d3:Nat):Int)] 98)).alloc (.cells #[.int .u64 (s.v:Int)] 49)).alloc (.cells #[.slice (some ⟨b,o,none⟩) 4 cap] 128)=w4:=⟨_,rfl⟩
  have hB4:Below w.heap.size w w4:=by
    rw[← hw4]
    exact ((((Below.refl w.heap.size w).alloc (Nat.le_refl _) _).alloc (by simp) _).alloc (by simp;omega) _).alloc (by simp;omega) _
  have hsz:w4.heap.size=w.heap.size+4:=by rw[← hw4];simp
  have b4:Blk w4 w.heap.size 31 #[.pointer (some ⟨gT,0,none⟩)]:=by
    rw[← hw4]
    exact (((Blk.new w _ _).al _).al _).al _
  have b6:Blk w4 (w.heap.size+1) 98 (digV page):=by
    rw[← hw4,← HDG.out]
    exact ((Blk.new1 w _ _ _).al _).al _
  have b7:Blk w4 (w.heap.size+2) 49 #[.int .u64 (s.v:Int)]:=by
    rw[← hw4]
    exact (Blk.new2 w _ _ _ _).al _
  have bX:w4.cell? ⟨w.heap.size+1+1+1,0,none⟩=some (.slice (some ⟨b,o,none⟩) 4 cap):=by
    rw[← hw4]
    have h:=(Boxed.new (((w.alloc (.cells #[.pointer (some ⟨gT,0,none⟩)] 31)).alloc (.cells #[.int .i64 ((d0:Nat):Int),.int .i64 ((d1:Nat):Int),.int .i64 ((d2:Nat):Int),.int .i64 ((d3:Nat):Int)] 98)).alloc (.cells #[.int .u64 (s.v:Int)] 49)) 128 (.slice (some ⟨b,o,none⟩) 4 cap)).cell
    simpa using h
  rw[hw4]
  have HB4:=Lib.hid hB4
  have HSZ:=Lib.hid hsz
  have I0:=Lib.hid (show PutW w gT gR gF gP r gS gL w.heap.size bad page (goPut way page s []) w4 from
    { mem:=HM.out.below hB4 HM.out.lt.1 HM.out.lt.2,pool:=HP.out.fresh hB4,st:=HS.out.fresh hB4,tr:=Blk.below HT.out hB4 (Blk.lt HT.out),c4:=b4,c6:=b6,c7:=b7,v:=HVV.out,big:=by omega,turns:=Turns.of_below hB4 (Nat.le_refl _) })
  clear hw4
  refine wpIn_rangeFunc_ownG hro (by omega) (gf:=241) (lb:=#[.pointer (some ⟨w.heap.size+1+1+1,0,none⟩)]) rfl trivial (enters_of Tryz.func241 (by kernel_rfl) rfl)
    (encs:=fun x:Fin 4=>#[.int .i64 ((x.1:Nat):Int),.int .i64 ((way.getD x.1 0:Nat):Int)]) (Kp:=KeepBG b (w.heap.size+1+1+1)) (backward_any (n:=7) (by omega) (w.heap.size+1+1+1) b o cap way w4 (by omega) (by omega) bX (fun j hj=>(hB4.cell (p:=⟨b,o+j,none⟩) hbl).trans (HC.out j hj))) (fun h k=>h.trans k) ?hKb (Below.refl _ _) (fun _=>rfl)
    (fun pre W=>PutW w gT gR gF gP r gS gL w.heap.size bad page (goPut way page s pre) W)
    (fun _ _ _=>False)
    (fun pre A B row hs hg hr=>hs.keep hg (fun r e=>by have:=hr r e;exact⟨by have:=hB4.size;omega,this.2⟩))
    (fun _ _ _ _ _ hs _ _=>hs)
    I0.out
    (fun x=>{ tmps:=#[.pointer (some ⟨gT,0,none⟩),.slice (some ⟨b,o,none⟩) 4 cap,.agg #[.int .i64 ((d0:Nat):Int),.int .i64 ((d1:Nat):Int),.int .i64 ((d2:Nat):Int),.int .i64 ((d3:Nat):Int)],.int .u64 (s.v:Int),.pointer (some ⟨w.heap.size,0,none⟩),undef,.pointer (some ⟨w.heap.size+1,0,none⟩),.pointer (some ⟨w.heap.size+1+1,0,none⟩),.int .i64 ((x.1:Nat):Int),.int .i64 ((way.getD x.1 0:Nat):Int),.slice (some ⟨b,o,none⟩) 4 cap,.func (.func 241) #[] #[.pointer (some ⟨w.heap.size+1+1+1,0,none⟩)],.int .i64 ((x.1:Nat):Int),.int .i64 ((way.getD x.1 0:Nat):Int),undef,undef,undef,undef,undef,undef,undef,undef,undef,undef,undef,undef,undef,undef,undef,undef,undef,undef,undef,undef],defers:=[] }) ?assign ?body ?done ?stop
  case hKb =>
    intro W l ob ob' hl hw _ _
    have hlt:l < W.heap.size:=(Array.getElem?_eq_some_iff.1 hw).1
    have hg:=grownBy_putObj' W l ob'
    exact⟨hg.block b (by omega) (fun e=>by injection e with e;omega),hg.block _ (by omega) (fun e=>by injection e with e;omega)⟩
  case assign =>
    intro l x W K hK
    gi_wp2
    exact hK
  case body =>
    rintro l pre ⟨i,hi⟩ W hI hlt
    obtain⟨S,hS⟩:∃ S,S=goPut way page s pre:=⟨_,rfl⟩
    rw[← hS] at hI
    have HI:=Lib.hid hI
    have HSS:=Lib.hid hS
    obtain⟨f,hf⟩:∃ f,f=way.getD i 0:=⟨_,rfl⟩
    have hf10:f < 1024:=by rw[hf];exact HWY.out i hi
    obtain⟨d,hd⟩:∃ d,d=page / dv (i+1) % 8:=⟨_,rfl⟩
    have hd8:d < 8:=by rw[hd];exact Nat.mod_lt _ (by omega)
    have cD:W.drew.cell? ⟨w.heap.size+1,i,none⟩=some (.int .i64 (d:Int)):=(hI.c6.cell i).trans (by rw[hd];exact digV_at page hi)
    have cT:W.drew.cell? ⟨w.heap.size,0,none⟩=some (.pointer (some ⟨gT,0,none⟩)):=hI.c4.cell 0
    have cV:W.drew.cell? ⟨w.heap.size+1+1,0,none⟩=some (.int .u64 (S.v:Int)):=hI.c7.cell 0
    have hi4:(i:Int) < 4:=by omega
    have hi0:(0:Int)≤(i:Int):=by omega
    have WR:=Lib.hid (twrite_any gT gR gF gP r gS f d S.v S.F bad W.drew hI.tr hI.mem hf10 (HBD.out f hf10) hd8 hI.v (fun e=>HD.out.fT e.symm))
    rw[← hf]
    have HDD:=Lib.hid hd
    have HFF:=Lib.hid hf
    clear hI hS hlt hf hd
    refine wpIn_block ?_
    refine wpIn_seq ?_
    refine wpIn_region_tail2 6 (by kernel_rfl) ?hok (by kernel_rfl) ?_
    case hok =>
      intro oo hoo
      simp only[List.mem_cons,List.not_mem_nil,or_false] at hoo
      rcases hoo with rfl | rfl | rfl | rfl | rfl | rfl | rfl
      · exact OkIn.of_plain rfl
      · exact OkIn.of_plain rfl
      · exact OkIn.of_plain rfl
      · exact OkIn.of_plain rfl
      · exact OkIn.of_plain rfl
      · exact OkIn.of_plain rfl
      · exact okIn_call (f:=214) rfl rfl (enters_of Tryz.func214 (by kernel_rfl) rfl)
    simp only[List.take_succ_cons,List.take_zero,List.drop_succ_cons,List.drop_zero]
    repeat still_step
    try refine wpStill_nil ?_
    obtain⟨W2,hW2⟩:∃ W2,W2=W.drew:=⟨_,rfl⟩
    change wpList _ _ _ _ _ W.drew
    have HW2:=Lib.hid (show PutW w gT gR gF gP r gS gL w.heap.size bad page S W2∧Turns (MB gP gS gL gF w.heap.size) W W2 from by
      rw[hW2]
      exact⟨{ mem:=HI.out.mem,pool:=HI.out.pool,st:=HI.out.st,tr:=HI.out.tr,c4:=HI.out.c4,c6:=HI.out.c6,c7:=HI.out.c7,v:=HI.out.v,big:=HI.out.big,turns:=HI.out.turns.drew },(Turns.refl _ _).drew⟩)
    rw[← hW2] at cD cT cV WR ⊢
    clear hW2
    go_wp2_with fail
    refine WR.out.mono ?_
    rintro e W3 ⟨rfl,hm3,ht3⟩
    have hlt6:gP < w.heap.size∧gS < w.heap.size∧gL < w.heap.size∧gF < w.heap.size∧gT≠gP∧gT≠gS∧gT≠gL∧gT≠gF∧gT < w.heap.size:=⟨PoolMem.lt HP.out _ rfl,HS.out.lt.1,HS.out.lt.2,HM.out.lt.2,HD.out.d.tP,HD.out.d.tS,HD.out.d.tL,fun e=>HD.out.fT e.symm,Blk.lt HT.out⟩
    have HL6:=Lib.hid hlt6
    have c73:Blk W3 (w.heap.size+2) 49 #[.int .u64 (S.v:Int)]:=ht3.blk HW2.out.1.c7 (by omega)
    have cV3:W3.cell? ⟨w.heap.size+1+1,0,none⟩=some (.int .u64 (S.v:Int)):=c73.cell 0
    have fV3:W3.frozen? ⟨w.heap.size+1+1,0,none⟩=false:=c73.frozen 0
    have cT3:W3.cell? ⟨w.heap.size,0,none⟩=some (.pointer (some ⟨gT,0,none⟩)):=(ht3.blk HW2.out.1.c4 (by omega)).cell 0
    have HM3:=Lib.hid hm3
    have HT3:=Lib.hid ht3
    have HC3:=Lib.hid c73
    have TL:=Lib.hid (show ∀ m W,CallsIn (Fence.wide.inRound l) m Tryz.prog 97 #[.int .i64 (f:Int)] W fun e w'=>e=.returned (.int .u64 ((f+1:Nat):Int))∧W=w' from fun m W=>CallsIn.inRound l (callsIn_wide.2 (tells_any f W hf10)))
    have hfT:(Fence.wide.inRound l).fn 97:=trivial
    have hfE:(Fence.wide.inRound l).fn 215:=trivial
    have hfD:(Fence.wide.inRound l).fn 165:=trivial
    clear hm3 ht3 c73 cD cT cV
    go_wp2_with fail
    refine OnlyNormal.mk ?_
    have C74:=Lib.hid (show Blk (W3.setCell ⟨w.heap.size+1+1,0,none⟩ (.int .u64 ((f:Int)+1))) (w.heap.size+2) 49 #[.int .u64 ((f+1:Nat):Int)] from (HC3.out.set_ 0 _).eq_ (by show #[Value.int .u64 ((f:Int)+1)]=_;congr 2))
    have T4:=Lib.hid (show Turns (MB gP gS gL gF w.heap.size) W (W3.setCell ⟨w.heap.size+1+1,0,none⟩ (.int .u64 ((f:Int)+1))) from (HW2.out.2.trans (HT3.out.mono (fun k hk=>.inr (.inr (.inr (.inl hk)))))).trans (Turns.of_only ((Only.refl (w.heap.size+2) W3).setCell 0 _) (.inr (.inr (.inr (.inr rfl))))))
    have HL7:=HL6.out
    have M4:=Lib.hid (show Mem (W3.setCell ⟨w.heap.size+1+1,0,none⟩ (.int .u64 ((f:Int)+1))) gR gF 1024 (wrF S.F f d S.v) bad from HM3.out.only ((Only.refl (w.heap.size+2) W3).setCell 0 _) (by have:=HM.out.lt.1;omega) (by omega))
    have P4:=Lib.hid (show PoolIn (W3.setCell ⟨w.heap.size+1+1,0,none⟩ (.int .u64 ((f:Int)+1))) gP S.p from (HW2.out.1.pool.turns HT3.out (fun e=>HD.out.fP e.symm)).turns (Turns.of_only ((Only.refl (w.heap.size+2) W3).setCell 0 _) rfl:Turns (fun k=>k=w.heap.size+2) _ _) (by omega))
    have S4:=Lib.hid (show SetAt (W3.setCell ⟨w.heap.size+1+1,0,none⟩ (.int .u64 ((f:Int)+1))) gS gL S.b from (HW2.out.1.st.turns HT3.out (fun e=>HD.out.fS e.symm) (fun e=>HD.out.fL e.symm)).turns (Turns.of_only ((Only.refl (w.heap.size+2) W3).setCell 0 _) rfl:Turns (fun k=>k=w.heap.size+2) _ _) (by omega) (by omega))
    have B4:=Lib.hid (show TreeB (W3.setCell ⟨w.heap.size+1+1,0,none⟩ (.int .u64 ((f:Int)+1))) gT gR gP r gS from (HT3.out.blk HW2.out.1.tr HL7.2.2.2.2.2.2.2.1).oth (by omega))
    clear HL7
    by_cases hi00:i=0
    · subst hi00
      gi_wp2_with (refine⟨trivial,?_⟩;gi_at_call 97;refine (TL.out _ _).mono ?_;rintro e w' ⟨rfl,rfl⟩)
      refine⟨trivial,?_⟩
      gi_wp2
      have eS:goPut way page s (pre ++ [(⟨0,hi⟩:Fin 4)])=⟨wrF S.F f d S.v,S.p,S.b,f+1⟩:=by
        rw[goPut_snoc,← HSS.out]
        unfold putStep
        rw[← HFF.out,← HDD.out]
        exact if_neg (by simp)
      refine⟨keeps_of T4.out (by have:=HL6.out;have:=HSZ.out;omega),?_,?_⟩
      · exact keepBG_of T4.out HI.out.big (by have:=HL6.out;omega) hbl HBK.out
      · show PutW w gT gR gF gP r gS gL w.heap.size bad page (goPut way page s (pre ++ [(⟨0,hi⟩:Fin 4)])) _
        rw[eS]
        exact HI.out.next rfl HL6.out T4.out M4.out P4.out S4.out C74.out (by show f+1 < 18446744073709551616;omega)
    · have ti:decide ((0:Int) < (i:Int))=true:=decide_eq_true (by omega)
      have EM:=Lib.hid (show ∀ m,CallsIn (Fence.wide.inRound l) m Tryz.prog 215 #[.pointer (some ⟨gT,0,none⟩),.int .i64 (f:Int)] (W3.setCell ⟨w.heap.size+1+1,0,none⟩ (.int .u64 ((f:Int)+1))) fun e w'=>e=.returned (.bool (emptyB (wrF S.F f d S.v f)))∧Below (W3.setCell ⟨w.heap.size+1+1,0,none⟩ (.int .u64 ((f:Int)+1))).heap.size (W3.setCell ⟨w.heap.size+1+1,0,none⟩ (.int .u64 ((f:Int)+1))) w' from fun m=>CallsIn.inRound l (callsIn_wide.2 (tempty_any gT gR gF gP r gS f _ bad _ B4.out M4.out hf10 (HBD.out f hf10))))
      gi_wp2_with (refine⟨trivial,?_⟩;gi_at_call 97;refine (TL.out _ _).mono ?_;rintro e w' ⟨rfl,rfl⟩)
      refine⟨trivial,?_⟩
      gi_at_call 215
      refine (EM.out _).mono ?_
      rintro e w5 ⟨rfl,hb5⟩
      have T5:=Lib.hid (T4.out.trans (Turns.of_below hb5 (Nat.le_refl _)))
      have M5:=Lib.hid (M4.out.below hb5 M4.out.lt.1 M4.out.lt.2)
      have P5:=Lib.hid (P4.out.fresh hb5)
      have S5:=Lib.hid (S4.out.fresh hb5)
      have B5:=Lib.hid (Blk.below B4.out hb5 (Blk.lt B4.out))
      have C5:=Lib.hid (C74.out.below hb5 C74.out.lt)
      have K5:=Lib.hid (T5.out.blk HI.out.c4 (by have:=HL6.out;unfold MB;rintro (e | e | e | e | e) <;> omega))
      have SZ5:=Lib.hid (show w.heap.size+4≤w5.heap.size from Nat.le_trans HI.out.big T5.out.size)
      clear hb5
      cases hE:emptyB (wrF S.F f d S.v f) with
      | false =>
        have eS:goPut way page s (pre ++ [(⟨i,hi⟩:Fin 4)])=⟨wrF S.F f d S.v,S.p,S.b,f+1⟩:=by
          rw[goPut_snoc,← HSS.out]
          unfold putStep
          rw[← HFF.out,← HDD.out,hE]
          exact if_neg (by simp)
        have ES:=Lib.hid eS
        clear eS hE
        gi_wp2
        refine⟨keeps_of T5.out (by have:=HL6.out;have:=HSZ.out;omega),keepBG_of T5.out HI.out.big (by have:=HL6.out;omega) hbl HBK.out,?_⟩
        show PutW w gT gR gF gP r gS gL w.heap.size bad page (goPut way page s (pre ++ [(⟨i,hi⟩:Fin 4)])) _
        rw[ES.out]
        exact HI.out.next rfl HL6.out T5.out M5.out P5.out S5.out C5.out (by show f+1 < 18446744073709551616;omega)
      | true =>
        have eS:goPut way page s (pre ++ [(⟨i,hi⟩:Fin 4)])=⟨wrF S.F f d S.v,(freeP S.p ((f:Nat):Int)).2,putB S.b false [((f:Nat):Int)],0⟩:=by
          rw[goPut_snoc,← HSS.out]
          unfold putStep
          rw[← HFF.out,← HDD.out,hE]
          exact if_pos (by simp;omega)
        have ES:=Lib.hid eS
        have c5:w5.cell? ⟨w.heap.size,0,none⟩=some (.pointer (some ⟨gT,0,none⟩)):=K5.out.cell 0
        have B6:=Lib.hid ((Below.refl w5.heap.size w5).alloc (Nat.le_refl _) (.cells #[.int .i64 (f:Int)] 3))
        have V6:=Lib.hid (show Its (w5.alloc (.cells #[.int .i64 (f:Int)] 3)) (w5.alloc (.cells #[.int .i64 (f:Int)] 3)).heap.size (.slice (some ⟨w5.heap.size,0,none⟩) 1 1) (zI [f]) from Its.of_lit (xs:=[(f:Int)]) (Blk.new w5 3 #[.int .i64 (f:Int)]) (by show (1:Nat)≤maxLen;unfold maxLen;omega))
        have DR:=Lib.hid (show ∀ m,CallsIn (Fence.wide.inRound l) m Tryz.prog 165 #[.pointer (some ⟨gT,0,none⟩),.slice (some ⟨w5.heap.size,0,none⟩) 1 1] (w5.alloc (.cells #[.int .i64 (f:Int)] 3)) _ from fun m=>CallsIn.inRound l (callsIn_wide.2 (tdrop_any gT gR gP r gS gL S.p S.b _ [f] _ (Blk.below B5.out B6.out (Blk.lt B5.out)) (P5.out.fresh B6.out) (S5.out.fresh B6.out) HD.out.d V6.out (fun bb o s n c e hn hk=>by cases e;have:=HL6.out;have:=SZ5.out;rcases hk with h | h | h <;> omega))))
        clear eS hE
        gi_wp2_with (refine⟨trivial,?_⟩;gi_at_call 165;refine (DR.out _).mono ?_;rintro e w7 ⟨rfl,h71,h72,h73⟩;have C7:=Lib.hid (h73.blk (C5.out.below B6.out C5.out.lt) (by have:=HL6.out;rintro (e | e | e) <;> omega));have c7:w7.cell? ⟨w.heap.size+1+1,0,none⟩=some (.int .u64 ((f+1:Nat):Int)):=C7.out.cell 0;have f7:w7.frozen? ⟨w.heap.size+1+1,0,none⟩=false:=C7.out.frozen 0;have H71:=Lib.hid h71;have H72:=Lib.hid h72;have H73:=Lib.hid h73;clear h71 h72 h73)
        have T8:Turns (MB gP gS gL gF w.heap.size) W (w7.setCell ⟨w.heap.size+1+1,0,none⟩ (.int .u64 0)):=(T5.out.trans ((Turns.of_below B6.out (Nat.le_refl _)).trans (H73.out.mono (fun k hk=>by rcases hk with h | h | h;exact .inl h;exact .inr (.inl h);exact .inr (.inr (.inl h)))))).trans (Turns.of_only ((Only.refl (w.heap.size+2) w7).setCell 0 _) (.inr (.inr (.inr (.inr rfl)))))
        have hl6:=HL6.out
        have O8:Turns (fun k=>k=w.heap.size+2) w7 (w7.setCell ⟨w.heap.size+1+1,0,none⟩ (.int .u64 0)):=Turns.of_only ((Only.refl (w.heap.size+2) w7).setCell 0 _) rfl
        refine⟨keeps_of T8 (by have:=HSZ.out;omega),keepBG_of T8 HI.out.big (by omega) hbl HBK.out,?_⟩
        show PutW w gT gR gF gP r gS gL w.heap.size bad page (goPut way page s (pre ++ [(⟨i,hi⟩:Fin 4)])) _
        rw[ES.out]
        have hlR:=HM.out.lt.1
        refine HI.out.next rfl HL6.out T8 ?_ (H71.out.turns O8 (by omega)) (H72.out.turns O8 (by omega) (by omega)) (C7.out.set_ 0 _) (by show (0:Nat) < 18446744073709551616;omega)
        exact (((M5.out.below B6.out M5.out.lt.1 M5.out.lt.2).turns H73.out (by rintro (e | e | e);exact HD.out.rP e;exact HD.out.rS e;exact HD.out.rL e) (by rintro (e | e | e);exact HD.out.fP e;exact HD.out.fS e;exact HD.out.fL e)).turns O8 (by omega) (by omega))
  case done =>
    rintro Dd xs W hDd hS hI hK
    subst hS
    have H9:=Lib.hid (hI.keep (grownBy_putObj' W Dd (.deferred none)) (fun r e=>by cases e;exact⟨by omega,_,hK,rfl⟩))
    clear hI
    gi_wp2
    refine⟨by simp,.inl ⟨_,_,rfl,run_takeDeferred hK,?_⟩⟩
    exact⟨_,results_none rfl _ _ _,rfl,_,rfl,H9.out.mem,H9.out.pool,H9.out.st,H9.out.turns⟩
  case stop =>
    rintro D c pre W _ _ h _
    exact h.elim
end Go.Proofs.YtaonpmclkafjdaaGreat
namespace Go.Proofs.YtaonpmclkafjdaaGreat
open Go.RowKit
set_option linter.unusedVariables false
structure TreeG (w:World)(gT gR gP r gS gL:Nat)(F:Nat→List Nat)(bl:List Bool)(g:Nat→Nat→Nat)(e:List En):Prop where
  tr:TreeB w gT gR gP r gS
  st:SetAt w gS gL bl
  nod:Nod g (fun f=>bl.getD f false=true) 0 0
  con:Con g F 0 0
  root:g 0 0=r+1
  pg:∀ q,g 4 q=numE (e.getD q en0)
  el:e.length=4096
  eok:∀ x∈e,EnOk x
theorem en0_ok:EnOk en0:=.inr (.inr ⟨.inl rfl,rfl,rfl⟩)
theorem getE_ok {e:List En}(h:∀ x∈e,EnOk x)(q:Nat):EnOk (e.getD q en0):=by
  by_cases c:q < e.length
  · exact h _ (getD_mem_or _ _ _ c)
  · rw[List.getD_eq_getElem?_getD,List.getElem?_eq_none (by omega)]
    exact en0_ok
theorem dec_of {v:Nat}{y x:En}{er:Nat}(h:DecIs v y er)(hx:EnOk x)(hv:v=numE x):y=x∧er=0:=by
  rcases h with ⟨h1,h2,h3⟩ | ⟨h1,h2,h3⟩
  · exact⟨numE_inj h2 hx (h3.trans hv),h1⟩
  · exact absurd hv.symm (h3 x hx)
set_option maxRecDepth 20000 in
set_option maxHeartbeats 1600000 in
theorem tget_live (gT gR gF gP r gS gL page:Nat) (F:Nat→List Nat) (bad:Nat→Bool) (bl:List Bool) (g:Nat→Nat→Nat) (e:List En) (w:World) (hG:TreeG w gT gR gP r gS gL F bl g e) (hM:Mem w gR gF 1024 F bad) (hb:∀ f,f < 1024→bad f=false) (hp:page < 4096) :
    Calls Tryz.prog 13 #[.pointer (some ⟨gT,0,none⟩),.int .i64 (page:Int)] w fun ee w'=>ee=.returned (.tuple #[.agg (enV (e.getD page en0)),.int .i64 0])∧Below w.heap.size w w':=by
  have hB0:=(Below.refl w.heap.size w).alloc (Nat.le_refl _) (.cells #[.int .i64 0,.int .i64 0,.bool false] 29)
  have HB0:=Lib.hid hB0
  have E0:=Lib.hid (Blk.new w 29 #[.int .i64 0,.int .i64 0,.bool false])
  have HG:=Lib.hid hG
  have HM:=Lib.hid hM
  have HBD:=Lib.hid hb
  have MY:=Lib.hid (tmay_in gT gR gP r gS page _ (Blk.below hG.tr hB0 (Blk.lt hG.tr)) hp)
  have DG:=Lib.hid (digits_any page (w.alloc (.cells #[.int .i64 0,.int .i64 0,.bool false] 29)) hp)
  clear hG hM hb hB0
  go_enter Tryz.func13,Tryz.ntmps13
  go_wp2_with fail
  refine MY.out.mono ?_
  rintro ee w1 ⟨rfl,rfl⟩
  go_wp2_with fail
  refine DG.out.mono ?_
  rintro ee w2 ⟨rfl,hb2⟩
  have hB2:=HB0.out.trans (hb2.mono HB0.out.size)
  have WK:=Lib.hid (twalk_any 47 #[] (enters_of Tryz.func47 (by kernel_rfl) rfl) (fun _ M _=>M=fun _=>False)
    (fun l M W W' h _=>h) (fun l M W h k hk=>by rw[h] at hk;exact hk.elim) (fun l M W f h _=>(way_none (f:Int) W).mono (fun ee w' hh=>⟨hh.1,M,h,fun k hk=>.inl hk,hh.2 ▸ Turns.refl _ _⟩))
    gT gR gF gP r gS page 0 F bad g _ (fun _=>False) w2 (Blk.below HG.out.tr hB2 (Blk.lt HG.out.tr)) (HM.out.below hB2 HM.out.lt.1 HM.out.lt.2) HBD.out HG.out.nod HG.out.con HG.out.root hp rfl (fun h=>h) (fun h=>h) (fun h=>h))
  have HB2:=Lib.hid hB2
  have E2:=Lib.hid (E0.out.below hb2 E0.out.lt)
  clear hb2 hB2
  go_wp2_with fail
  refine WK.out.mono ?_
  rintro ee w3 ⟨rfl,L,M',_,_,_,_,_,_,ht3⟩
  have HB3:=Lib.hid (HB2.out.trans ((ht3.below (B:=w2.heap.size) (fun k hk=>hk.elim) (Nat.le_refl _)).mono HB2.out.size))
  have E3:=Lib.hid (ht3.blk E2.out (fun h=>h))
  obtain⟨x,hx⟩:∃ x,x=e.getD page en0:=⟨_,rfl⟩
  have hxo:EnOk x:=by rw[hx];exact getE_ok HG.out.eok page
  have HX:=Lib.hid hx
  have hv:g 4 page=numE x:=by rw[hx];exact HG.out.pg page
  have DC:=Lib.hid (dec_any (g 4 page) w3 (by have:=numE_lt hxo;omega))
  have HXO:=Lib.hid hxo
  have HV:=Lib.hid hv
  clear ht3 hx hxo hv
  go_wp2_with fail
  refine DC.out.mono ?_
  rintro ee w4 ⟨k,n,b,er,rfl,hde,hb4⟩
  obtain⟨hy,rfl⟩:=dec_of hde HXO.out HV.out
  have HY:=Lib.hid hy
  have HB4:=Lib.hid (HB3.out.trans (hb4.mono HB3.out.size))
  have E4:=Lib.hid (E3.out.below hb4 E3.out.lt)
  have b0:w4.cell? ⟨w.heap.size,0,none⟩=some (.int .i64 0):=E4.out.cell 0
  have b1:w4.cell? ⟨w.heap.size,1,none⟩=some (.int .i64 0):=E4.out.cell 1
  have b2:w4.cell? ⟨w.heap.size,2,none⟩=some (.bool false):=E4.out.cell 2
  have f0:w4.frozen? ⟨w.heap.size,0,none⟩=false:=E4.out.frozen 0
  have f1:w4.frozen? ⟨w.heap.size,1,none⟩=false:=E4.out.frozen 1
  have f2:w4.frozen? ⟨w.heap.size,2,none⟩=false:=E4.out.frozen 2
  clear hde hb4 hy
  go_wp2_with fail
  refine bodyPost_ret (results_row_tmp rfl _ _ w.heap.size 29 #[.int .i64 k,.int .i64 n,.bool b] _ rfl (((E4.out.set_ 0 _).set_ 1 _).set_ 2 _) Tryz.underlying29 rfl (by kernel_rfl)) rfl ?_
  refine⟨?_,((HB4.out.setCell (Nat.le_refl _) _).setCell (Nat.le_refl _) _).setCell (Nat.le_refl _) _⟩
  rw[← HX.out,← HY.out]
  rfl
end Go.Proofs.YtaonpmclkafjdaaGreat
namespace Go.Proofs.YtaonpmclkafjdaaGreat
open Go.RowKit
set_option linter.unusedVariables false
section
variable {P:Program}{w:World}
theorem run_append_rows (base:Nat) (t ty e:TypeId) (i:TypeInfo) (z:Value) (size bytes:Nat) (ht:P.underlying t=some (.slice e)) (hi:P.info? e=some i) (hz:i.zero=some z)
    (hsize:i.size=size) (hby:i.bytes=bytes) (hzs:z.cells.size=size) (hsz:0 < size)
    (v:Value) (n:Nat) (xs:List Value) (h:RowAt w base size v n xs) (u:Value) (m:Nat) (us:List Value) (hr:Rd w size u m us)
    (h63:n+m≤maxLen) (hbytes:(n+m) * bytes≤140737488355328) (hbase:base≤w.heap.size) :
    ∃ v' w',(Builtin.append_ #[t,t] ty #[v,u]).run P w=.ok v' w'∧RowAt w' base size v' (n+m) (xs ++ us)∧w.grownBy w' v.ownBlock:=by
  obtain⟨A,c,rfl,hl,h1,hc⟩:=hr
  by_cases hm:m=0
  · subst hm
    have hy:us=[]:=List.eq_nil_of_length_eq_zero (by simpa using hl)
    subst hy
    cases A with
    | none =>
      refine⟨v,w,?_,by simpa using h,World.grownBy.refl _ _⟩
      obtain⟨_,_,⟨rfl,rfl⟩ | ⟨g,o,cap,rfl,hnc,_⟩⟩:=h
      · simp[Builtin.append_,run_underlying ht,sizeOf,typeInfo,hi,Builtin.lenOf,Builtin.firstCells]
      · simp[Builtin.append_,run_underlying ht,sizeOf,typeInfo,hi,Builtin.lenOf,Builtin.firstCells,hnc,storeCells]
    | some a =>
      obtain⟨h2,h3,⟨rfl,rfl⟩ | ⟨g,o,cap,rfl,k3,k4,k5,k6,k7,k8⟩⟩:=id h
      · obtain⟨v',w',r,o,g,_⟩:=run_append_own (P:=P) w base t ty e i z size bytes ht hi hz hsize hby hzs hsz (.slice none 0 0) 0 [] (World.ownsRow_nil w base e size) a 0 c [] (by simp) (fun j u h=>by simp at h) (fun u h=>by simp at h) h63 hbytes hbase
        obtain rfl:xs=[]:=List.eq_nil_of_length_eq_zero (by simpa using h2)
        exact⟨v',w',r,RowAt.of_own o (by simp),g⟩
      · have hrun:=run_append_room_cells (P:=P) w t ty e i ht hi g o n cap a 0 c [] (by simp) (fun j u hj=>by simp at hj) (fun u hu=>by simp at hu) k3 (fun j hj=>by simp at hj) (fun j hj=>by simp at hj)
        exact⟨_,_,hrun,by simpa [World.setCells] using h,World.grownBy.refl _ _⟩
  · obtain⟨b,ob,rfl,hcell⟩:=hc (by omega)
    subst hsize
    obtain⟨h2,h3,⟨rfl,rfl⟩ | ⟨g,o,cap,rfl,k3,k4,k5,k6,k7,k8⟩⟩:=h
    · obtain rfl:xs=[]:=List.eq_nil_of_length_eq_zero (by simpa using h2)
      obtain⟨v',w',hrun,r1,r2,_⟩:=run_append_own (P:=P) w base t ty e i z i.size bytes ht hi hz rfl hby hzs hsz (.slice none 0 0) 0 [] (World.ownsRow_nil w _ e i.size) ⟨b,ob,none⟩ m c us hl (fun j u hj=>by rw[Addr.add_lit];exact hcell j u hj) h1 (by simpa using h63) (by simpa using hbytes) hbase
      exact⟨v',w',hrun,RowAt.of_own r1 (by simpa using h1),r2⟩
    · have hu:∀ j u,us[j]?=some u→w.cell? ((⟨b,ob,none⟩:Addr).add j)=some u:=fun j u hj=>by rw[Addr.add_lit];exact hcell j u hj
      by_cases hr:n+m≤cap
      · have hcs:∀ j,j < us.length→n * i.size+j < cap * i.size:=fun j hj=>by
          have:=Nat.mul_le_mul_right i.size hr
          rw[Nat.add_mul] at this
          omega
        have ea:∀ j,o+n * i.size+j=o+(n * i.size+j):=fun j=>Nat.add_assoc _ _ _
        have hsome:∀ j,j < us.length→(w.cell? ⟨g,o+n * i.size+j,none⟩).isSome=true:=fun j hj=>by rw[ea];exact (k8 _ (hcs j hj)).1
        have hrun:=run_append_room_cells (P:=P) w t ty e i ht hi g o n cap ⟨b,ob,none⟩ m c us hl hu h1 hr hsome (fun j hj=>by rw[ea];exact (k8 _ (hcs j hj)).2)
        refine⟨_,_,hrun,⟨by rw[List.length_append,h2,hl,Nat.add_mul],fun u hm=>(List.mem_append.1 hm).elim (h3 u) (h1 u),.inr ⟨g,o,cap,rfl,hr,k4,k5,?_,fun j u hj=>?_,fun j hj=>?_⟩⟩,?_⟩
        · have:=(Only.setCells us (o+n * i.size) (Only.refl g w)).1.size
          omega
        · by_cases hjo:j < xs.length
          · rw[World.cell?_setCells_out g _ _ _ _ (fun _ _=>Or.inl (by show o+j < o+n * i.size;omega))]
            rw[List.getElem?_append_left hjo] at hj
            exact k7 j u hj
          · rw[List.getElem?_append_right (by omega)] at hj
            have hlt:j - xs.length < us.length:=(List.getElem?_eq_some_iff.1 hj).1
            have:=World.cell?_setCells_in g us (o+n * i.size) w hsome (j - xs.length) hlt
            rw[ea,show n * i.size+(j - xs.length)=j by omega] at this
            rw[this,← hj,List.getElem?_eq_getElem hlt]
        · refine⟨?_,(World.frozen?_setCells g _ _ _ _).trans (k8 j hj).2⟩
          by_cases hin:n * i.size≤j∧j < n * i.size+us.length
          · have:=World.cell?_setCells_in g us (o+n * i.size) w hsome (j - n * i.size) (by omega)
            rw[ea,show n * i.size+(j - n * i.size)=j by omega] at this
            rw[this];rfl
          · rw[World.cell?_setCells_out g _ _ _ _ (fun _ _=>(by show o+j < o+n * i.size∨o+n * i.size+us.length≤o+j;omega))]
            exact (k8 j hj).1
        · exact (Only.setCells us (o+n * i.size) (Only.refl g w)).1
      · obtain⟨v',w',hrun,r1,r2⟩:=run_append_arg_grows (P:=P) w t ty e i z i.size bytes ht hi hz rfl hby hzs hsz ⟨g,o,none⟩ n cap xs h2 (fun j u hj=>by rw[Addr.add_lit];exact k7 j u hj) ⟨b,ob,none⟩ m c us hl hu (by omega) h63 hbytes
        refine⟨v',w',hrun,(RowAt.of_own r1 (fun u hm=>(List.mem_append.1 hm).elim (h3 u) (h1 u))).mono hbase,?_⟩
        exact⟨r2.os,r2.tape,r2.output,r2.size,fun k hk _=>r2.block k hk (by simp)⟩
end
theorem Rd.of_rowAt {w:World}{base size n:Nat}{v:Value}{xs:List Value}(h:RowAt w base size v n xs):Rd w size v n xs:=by
  obtain⟨h1,h2,⟨rfl,rfl⟩ | ⟨g,o,cap,rfl,h3,h4,h5,h6,h7,h8⟩⟩:=h
  · exact⟨none,0,rfl,h1,h2,fun h=>absurd h (Nat.lt_irrefl _)⟩
  · exact⟨_,_,rfl,h1,h2,fun _=>⟨g,o,rfl,h7⟩⟩
def SetRes (w:World)(gR gF gP gS gL page v:Nat)(F:Nat→List Nat)(bad:Nat→Bool)(p:PS)(bl:List Bool)(g:Nat→Nat→Nat)(ee:Ending)(w':World):Prop :=
  ∃ L,1≤L∧L≤4∧(∀ l,l < L→g l (page / dv l)≠0)∧(L < 4→g L (page / dv L)=0) ∧
    ((L < 4∧v=0∧ee=.returned (.int .i64 0)∧Below w.heap.size w w') ∨
     (∃ m,¬ (L < 4∧v=0)∧m.length < 4 - L∧Took p m∧FirstF (hadP p m) 2 (2 ^ 0) none∧ee=.returned (.int .i64 4)∧PoolIn w' gP p∧SetAt w' gS gL (putB bl false (zI m))∧Turns (fun k=>k=gP∨k=gS∨k=gL) w w') ∨
     (∃ m F' s',¬ (L < 4∧v=0)∧m.length=4 - L∧Took p m∧(∀ f∈m,F' f=zer)∧(∀ f,f ∉ m→F' f=F f)∧(∀ f,f < 1024→(F' f).length=64)∧ee=.returned (.int .i64 0)∧s'=goPut (wayF g page L ++ m) page ⟨F',hadP p m,putB bl true (zI m),v⟩ (downs 4)∧Mem w' gR gF 1024 s'.F bad∧PoolIn w' gP s'.p∧SetAt w' gS gL s'.b∧Turns (fun k=>k=gP∨k=gS∨k=gL∨k=gF) w w'))
set_option maxRecDepth 20000 in
set_option maxHeartbeats 1600000 in
theorem tset_live (gT gR gF gP r gS gL page:Nat) (k n:Int) (b:Bool) (F:Nat→List Nat) (bad:Nat→Bool) (p:PS) (bl:List Bool) (g:Nat→Nat→Nat) (e:List En) (w:World) (hG:TreeG w gT gR gP r gS gL F bl g e) (hM:Mem w gR gF 1024 F bad) (hb:∀ f,f < 1024→bad f=false) (hP:PoolIn w gP p) (hD:Dif2 gT gR gF gP gS gL) (hp:page < 4096) (hx:EnOk ⟨k,n,b⟩) :
    Calls Tryz.prog 149 #[.pointer (some ⟨gT,0,none⟩),.int .i64 (page:Int),.agg #[.int .i64 k,.int .i64 n,.bool b]] w (SetRes w gR gF gP gS gL page (numE ⟨k,n,b⟩) F bad p bl g):=by
  obtain⟨iI,hiI,hiz0,hiz1,hiz2⟩:=info_parts Tryz.infoInt8
  have HII:=Lib.hid hiI
  have HI0:=Lib.hid hiz0
  have HI1:=Lib.hid hiz1
  have HI2:=Lib.hid hiz2
  have hB0:=(Below.refl w.heap.size w).alloc (Nat.le_refl _) (.cells #[.int .i64 k,.int .i64 n,.bool b] 29)
  have HB0:=Lib.hid hB0
  have HG:=Lib.hid hG
  have HM:=Lib.hid hM
  have HBD:=Lib.hid hb
  have HP:=Lib.hid hP
  have HD:=Lib.hid hD
  have HLT:=Lib.hid (show gT < w.heap.size∧gR < w.heap.size∧gF < w.heap.size∧gP < w.heap.size∧gS < w.heap.size∧gL < w.heap.size from ⟨Blk.lt hG.tr,hM.lt.1,hM.lt.2,PoolMem.lt hP _ rfl,hG.st.lt.1,hG.st.lt.2⟩)
  have MY:=Lib.hid (tmay_in gT gR gP r gS page _ (Blk.below hG.tr hB0 (Blk.lt hG.tr)) hp)
  have EN:=Lib.hid (enc_any k n b (w.alloc (.cells #[.int .i64 k,.int .i64 n,.bool b] 29)))
  have HXO:=Lib.hid hx
  clear hG hM hb hP hD hB0 hx hiI hiz0 hiz1 hiz2
  obtain⟨v,hv⟩:∃ v,v=numE ⟨k,n,b⟩:=⟨_,rfl⟩
  rw[← hv]
  have HV:=Lib.hid hv
  clear hv
  go_enter Tryz.func149,Tryz.ntmps149
  go_wp2_with fail
  refine MY.out.mono ?_
  rintro ee w1 ⟨rfl,rfl⟩
  go_wp2_with fail
  refine EN.out.mono ?_
  rintro ee w2 ⟨u,er,rfl,he,hb2⟩
  obtain⟨rfl,rfl⟩:er=0∧u=v:=by
    rcases he with ⟨_,h2,h3⟩ | ⟨h1,_⟩
    · exact⟨h2,h3.trans HV.out.symm⟩
    · exact absurd HXO.out h1
  have HB2:=Lib.hid (HB0.out.trans (hb2.mono HB0.out.size))
  have hB3:=(Below.refl w2.heap.size w2).alloc (Nat.le_refl _) (.cells #[.slice none 0 0] 128)
  have HB3:=Lib.hid (HB2.out.trans (hB3.mono HB2.out.size))
  have W3:=Lib.hid (Blk.new w2 128 #[.slice none 0 0])
  have DG:=Lib.hid (digits_any page (w2.alloc (.cells #[.slice none 0 0] 128)) hp)
  clear he hb2 hB3
  go_wp2_with fail
  refine DG.out.mono ?_
  rintro ee w4 ⟨rfl,hb4⟩
  have hs3:=HB3.out.size
  obtain⟨d0,d1,d2,d3,hdg⟩:∃ d0 d1 d2 d3:Nat,digV page=#[.int .i64 ((d0:Nat):Int),.int .i64 ((d1:Nat):Int),.int .i64 ((d2:Nat):Int),.int .i64 ((d3:Nat):Int)]:=⟨_,_,_,_,rfl⟩
  rw[hdg]
  have HDG:=Lib.hid hdg
  have hB5:=hb4.alloc hb4.size (.cells #[.int .i64 ((d0:Nat):Int),.int .i64 ((d1:Nat):Int),.int .i64 ((d2:Nat):Int),.int .i64 ((d3:Nat):Int)] 98)
  have HB5:=Lib.hid (HB3.out.trans (hB5.mono hs3))
  have W5:=Lib.hid (W3.out.below hB5 W3.out.lt)
  have D5:=Lib.hid (Blk.new w4 98 #[.int .i64 ((d0:Nat):Int),.int .i64 ((d1:Nat):Int),.int .i64 ((d2:Nat):Int),.int .i64 ((d3:Nat):Int)])
  have HS4:=Lib.hid (show w2.heap.size+1≤w4.heap.size from by have:=hb4.size;simpa using this)
  have HS2:=Lib.hid (show w.heap.size < w2.heap.size+1 from by have:=HB2.out.size;omega)
  clear hb4 hB5 hs3 hdg
  have hltt:=HLT.out
  have hs22:=HS2.out
  have WK:=Lib.hid (twalk_any 188 #[.pointer (some ⟨w2.heap.size,0,none⟩)] (enters_of Tryz.func188 (by kernel_rfl) rfl) (WayR w2.heap.size)
    (fun l M W W' h hb=>h.below hb) (fun l M W h=>h.lt) (fun l M W f h hl=>way_add w2.heap.size l M W f h hl)
    gT gR gF gP r gS page 0 F bad g _ (fun j=>j=w2.heap.size∨(Value.slice none 0 0).ownBlock=some j) (w4.alloc (.cells #[.int .i64 ((d0:Nat):Int),.int .i64 ((d1:Nat):Int),.int .i64 ((d2:Nat):Int),.int .i64 ((d3:Nat):Int)] 98)) (Blk.below HG.out.tr HB5.out (Blk.lt HG.out.tr)) (HM.out.below HB5.out HM.out.lt.1 HM.out.lt.2) HBD.out HG.out.nod HG.out.con HG.out.root hp
    ⟨_,W5.out,RowAt.nil_ _ _ _,rfl⟩ (by rintro (h | h);omega;cases h) (by rintro (h | h);omega;cases h) (by rintro (h | h);omega;cases h))
  rw[HDG.out] at WK
  have cd0:(w4.alloc (.cells #[.int .i64 ((d0:Nat):Int),.int .i64 ((d1:Nat):Int),.int .i64 ((d2:Nat):Int),.int .i64 ((d3:Nat):Int)] 98)).cell? ⟨w4.heap.size,0,none⟩=some (.int .i64 ((d0:Nat):Int)):=D5.out.cell 0
  clear hltt hs22
  go_wp2_with fail
  refine WK.out.mono ?_
  rintro ee w6 ⟨rfl,L,M6,hL1,hL4,hLy,hLn,⟨vw,hw1,hw2,rfl⟩,hMn,ht6⟩
  rw[wayF_length] at hw2
  obtain⟨A,cap,hva,hcap⟩:=hw2.len
  subst hva
  have HLY:=Lib.hid hLy
  have HLN:=Lib.hid hLn
  have HW1:=Lib.hid hw1
  have HW2:=Lib.hid hw2
  have HMN:=Lib.hid hMn
  have c6:w6.cell? ⟨w2.heap.size,0,none⟩=some (.slice A L cap):=hw1.cell 0
  have HT6:=Lib.hid ht6
  have HD6:=Lib.hid (ht6.blk D5.out (by have:=HS4.out;rintro (h | h);omega;cases h))
  have HB6:=Lib.hid (HB5.out.trans (Turns.below ht6 (B:=w.heap.size) (by have:=HS2.out;rintro j (h | h);omega;cases h) HB5.out.size))
  have cn:(((4 - L:Nat)):Int)=4 - (L:Int):=by omega
  have AD:=Lib.hid (tadd_any gT gR gF gP r gS gL (4 - L) F bad p bl w6 (Blk.below HG.out.tr HB6.out (Blk.lt HG.out.tr)) (HM.out.below HB6.out HM.out.lt.1 HM.out.lt.2) HBD.out (HP.out.fresh HB6.out) (HG.out.st.fresh HB6.out) HD.out (by omega))
  rw[cn] at AD
  clear hLy hLn hw1 hw2 hMn ht6 cd0 cn
  have hgv:g 4 page=g 4 page:=rfl
  by_cases h40:L < 4∧u=0
  · obtain⟨h41,rfl⟩:=h40
    have t1:decide ((0:Int) < 4 - (L:Int))=true:=decide_eq_true (by omega)
    go_wp2_with fail
    go_ret
    exact⟨L,hL1,hL4,HLY.out,HLN.out,.inl ⟨h41,rfl,rfl,HB6.out⟩⟩
  · have H40:=Lib.hid h40
    by_cases h41:L < 4
    · have t1:decide ((0:Int) < 4 - (L:Int))=true:=decide_eq_true (by omega)
      have t2:((u:Int) == 0)=false:=by
        have:u≠0:=fun h=>h40 ⟨h41,h⟩
        simp[this]
      clear h40
      go_wp2_with fail
      refine AD.out.mono ?_
      rintro ee w7 ⟨m,⟨hml,htk,v2,F',rfl,hrow,hm7,hz7,ho7,hp7,hs7,ht7⟩ | ⟨hml,htk,hno,rfl,hp7,hs7,ht7⟩⟩
      · have hltt:=HLT.out
        have hs22:=HS2.out
        have hs6:=HB6.out.size
        have hs67:=ht7.size
        have hbk7:∀ j,w.heap.size≤j→j < w6.heap.size→w7.heap[j]?=w6.heap[j]?:=fun j h1 h2=>ht7.block j h2 (by rintro (h | h | h | h) <;> omega)
        have hW7:Blk w7 w2.heap.size 128 #[.slice A L cap]:=(hbk7 _ (by omega) HW1.out.lt).trans HW1.out
        have hD7:Blk w7 w4.heap.size 98 #[.int .i64 ((d0:Nat):Int),.int .i64 ((d1:Nat):Int),.int .i64 ((d2:Nat):Int),.int .i64 ((d3:Nat):Int)]:=(hbk7 _ (by have:=HS4.out;omega) HD6.out.lt).trans HD6.out
        have hR7:RowAt w7.drew (w2.heap.size+1) 1 (.slice A L cap) L (fV (wayF g page L)):=RowAt.keep HW2.out (fun j hj=>hbk7 j (by have:=(HW2.out.lt j hj).1;omega) (HW2.out.lt j hj).2) hs67
        obtain⟨v9,w9,r9,hr9,hg9⟩:=run_append_rows (P:=Tryz.prog) (w:=w7.drew) (w2.heap.size+1) 128 128 3 iI (.int .i64 0) 1 8 Tryz.underlying128 HII.out HI0.out HI1.out HI2.out rfl (by decide) _ L _ hR7 v2 (4 - L) (fV m) (Rd.of_rowAt (show RowAt w7.drew w6.heap.size 1 v2 (4 - L) (fV m) from hrow)) (by unfold maxLen;omega) (by omega) (by show w2.heap.size+1≤w7.heap.size;have:=hW7.lt;omega)
        rw[show L+(4 - L)=4 by omega,show fV (wayF g page L) ++ fV m=fV (wayF g page L ++ m) from by unfold fV;rw[List.map_append]] at hr9
        obtain⟨gq,oq,cq,rfl,hcq,hcells⟩:=hr9.some_ (by omega)
        have hgq:=hr9.lt gq rfl
        have hB9:Below (w2.heap.size+1) w7.drew w9:=(Below.refl _ _).grown hg9 (by show w2.heap.size+1≤w7.heap.size;have:=hW7.lt;omega) (fun j hj=>(hR7.lt j hj).1)
        have hD9:Blk w9 w4.heap.size 98 #[.int .i64 ((d0:Nat):Int),.int .i64 ((d1:Nat):Int),.int .i64 ((d2:Nat):Int),.int .i64 ((d3:Nat):Int)]:=(hg9.block w4.heap.size (by show w4.heap.size < w7.heap.size;exact hD7.lt) (fun e=>by
          have h1:=(hR7.lt w4.heap.size e.symm).1
          rcases HMN.out w4.heap.size (.inr e.symm) with (h | h) | h
          · omega
          · cases h
          · simp only[World.size_alloc] at h;omega)).trans hD7
        have hW9:Blk w9 w2.heap.size 128 #[.slice A L cap]:=(hB9.block _ (Nat.lt_succ_self _)).trans hW7
        have hB9':Below w.heap.size w7 w9:=Below.mono ((Below.refl (w2.heap.size+1) w7).drew.trans hB9) (by omega)
        have hta:=Took.all HP.out.ok m htk
        have hwl:∀ j,j < 4→(wayF g page L ++ m).getD j 0 < 1024:=fun j hj=>by
          by_cases c:j < L
          · rw[gaL _ _ _ (by rw[wayF_length];exact c)]
            have e:(wayF g page L).getD j 0=g j (page / dv j) - 1:=by unfold wayF;simp[c]
            rw[e]
            have h1:=HG.out.nod.le j (page / dv j) (by omega)
            have h2:=HLY.out j c
            omega
          · rw[gaR _ _ _ (by rw[wayF_length];omega),wayF_length]
            exact (hta.2 _ (getD_mem_or _ _ _ (by omega))).1
        have hul:u < 18446744073709551616:=by
          have h1:=numE_lt HXO.out
          have h2:=HV.out
          omega
        have PT:=Lib.hid (tput_any gT gR gF gP r gS gL page gq oq cq (wayF g page L ++ m) bad ⟨F',hadP p m,putB bl true (zI m),u⟩ w9 (Blk.below (ht7.blk (Blk.below HG.out.tr HB6.out (Blk.lt HG.out.tr)) (by have h1:=HD.out.d;have h2:=HD.out.fT;rintro (h | h | h | h);exact h1.tP h;exact h1.tS h;exact h1.tL h;exact h2 h.symm)) hB9' (by omega)) (hm7.below hB9' (by omega) (by omega)) HBD.out (hp7.bel hB9' (by omega)) (hs7.far (hB9'.block _ (by omega)) (hB9'.block _ (by omega))) HD.out hul hgq.2 (by rintro (h | h | h | h) <;> omega)
          (fun j hj=>hcells j _ (by unfold fV;rw[List.getElem?_map];have:j < (wayF g page L ++ m).length:=by rw[List.length_append,wayF_length];omega
                                    have hx:(wayF g page L ++ m)[j]?=some ((wayF g page L ++ m).getD j 0):=by rw[List.getD_eq_getElem?_getD,List.getElem?_eq_getElem this];rfl
                                    rw[hx]
                                    rfl)) hwl)
        rw[HDG.out] at PT
        have R9:=Lib.hid r9
        have SD:=Lib.hid (show w7.drew.cell? ⟨w2.heap.size,0,none⟩=some (.slice A L cap)∧w7.drew.cell? ⟨w4.heap.size,0,none⟩=some (.int .i64 ((d0:Nat):Int))∧w7.drew.cell? ⟨w4.heap.size,1,none⟩=some (.int .i64 ((d1:Nat):Int))∧w7.drew.cell? ⟨w4.heap.size,2,none⟩=some (.int .i64 ((d2:Nat):Int))∧w7.drew.cell? ⟨w4.heap.size,3,none⟩=some (.int .i64 ((d3:Nat):Int)) from ⟨hW7.cell 0,hD7.cell 0,hD7.cell 1,hD7.cell 2,hD7.cell 3⟩)
        have S9:=Lib.hid (show w9.cell? ⟨w2.heap.size,0,none⟩=some (.slice A L cap)∧w9.cell? ⟨w4.heap.size,0,none⟩=some (.int .i64 ((d0:Nat):Int))∧w9.cell? ⟨w4.heap.size,1,none⟩=some (.int .i64 ((d1:Nat):Int))∧w9.cell? ⟨w4.heap.size,2,none⟩=some (.int .i64 ((d2:Nat):Int))∧w9.cell? ⟨w4.heap.size,3,none⟩=some (.int .i64 ((d3:Nat):Int)) from ⟨hW9.cell 0,hD9.cell 0,hD9.cell 1,hD9.cell 2,hD9.cell 3⟩)
        have KP:=Lib.hid (show ∀ w',Turns (fun k=>k=gP∨k=gS∨k=gL∨k=gF) w9 w'→(w'.cell? ⟨w2.heap.size,0,none⟩=some (.slice A L cap)∧w'.cell? ⟨w4.heap.size,0,none⟩=some (.int .i64 ((d0:Nat):Int))∧w'.cell? ⟨w4.heap.size,1,none⟩=some (.int .i64 ((d1:Nat):Int))∧w'.cell? ⟨w4.heap.size,2,none⟩=some (.int .i64 ((d2:Nat):Int))∧w'.cell? ⟨w4.heap.size,3,none⟩=some (.int .i64 ((d3:Nat):Int))) from fun w' ht=>by
          have h1:=ht.blk hW9 (by rintro (h | h | h | h) <;> omega)
          have h2:=ht.blk hD9 (by have:=HS4.out;rintro (h | h | h | h) <;> omega)
          exact⟨h1.cell 0,h2.cell 0,h2.cell 1,h2.cell 2,h2.cell 3⟩)
        have T9:=Lib.hid ((((Turns.of_below HB6.out (Nat.le_refl _)).trans ht7).drew).bel (hB9.mono (by omega)):Turns (fun k=>k=gP∨k=gS∨k=gL∨k=gF) w w9)
        have HML:=Lib.hid hml
        have HTK:=Lib.hid htk
        have HZ7:=Lib.hid hz7
        have HO7:=Lib.hid ho7
        have HLG:=Lib.hid (show ∀ f,f < 1024→(F' f).length=64 from fun f hf=>hm7.long hf)
        clear hltt hs22 hs6 hs67 hbk7 hW7 hD7 hR7 r9 hr9 hg9 hcq hcells hgq hB9 hD9 hW9 hB9' hta hwl hul hml htk hrow hm7 hz7 ho7 hp7 hs7 ht7
        go_wp2_with fail
        go_region_held3 (fun w'=>w'.cell? ⟨w2.heap.size,0,none⟩=some (.slice A L cap)∧w'.cell? ⟨w4.heap.size,0,none⟩=some (.int .i64 ((d0:Nat):Int))∧w'.cell? ⟨w4.heap.size,1,none⟩=some (.int .i64 ((d1:Nat):Int))∧w'.cell? ⟨w4.heap.size,2,none⟩=some (.int .i64 ((d2:Nat):Int))∧w'.cell? ⟨w4.heap.size,3,none⟩=some (.int .i64 ((d3:Nat):Int)))
          (first | assumption | exact SD.out | exact S9.out)
          (first
            | (with_reducible refine step_append_run rfl (.tmp 61) (.tmp 62) 128 rfl (.slice A L cap) v2 rfl rfl _ _ R9.out ?_)
            | (go_at_call 189;refine PT.out.mono ?_;rintro ee w10 ⟨rfl,s',hs',h1,h2,h3,h4⟩;have S10:=KP.out w10 h4))
        have H1:=Lib.hid h1
        have H2:=Lib.hid h2
        have H3:=Lib.hid h3
        have H4:=Lib.hid (T9.out.trans h4)
        have H5:=Lib.hid hs'
        clear h1 h2 h3 h4 hs'
        go_wp2_with fail
        go_ret
        exact⟨L,hL1,hL4,HLY.out,HLN.out,.inr (.inr ⟨m,F',s',H40.out,HML.out,HTK.out,HZ7.out,HO7.out,HLG.out,rfl,H5.out,H1.out,H2.out,H3.out,H4.out⟩)⟩
      · have N1:=Lib.hid hml
        have N2:=Lib.hid htk
        have N3:=Lib.hid hno
        have N4:=Lib.hid hp7
        have N5:=Lib.hid hs7
        have N6:=Lib.hid ((Turns.of_below HB6.out (Nat.le_refl _)).trans ht7:Turns (fun k=>k=gP∨k=gS∨k=gL) w w7)
        clear hml htk hno hp7 hs7 ht7
        go_wp2_with fail
        go_ret
        exact⟨L,hL1,hL4,HLY.out,HLN.out,.inr (.inl ⟨m,H40.out,N1.out,N2.out,N3.out,rfl,N4.out,N5.out,N6.out⟩)⟩
    · have t1:decide ((0:Int) < 4 - (L:Int))=false:=decide_eq_false (by omega)
      clear h40
      go_wp2_with fail
      refine AD.out.mono ?_
      rintro ee w7 ⟨m,⟨hml,htk,v2,F',rfl,hrow,hm7,hz7,ho7,hp7,hs7,ht7⟩ | ⟨hml,htk,hno,rfl,hp7,hs7,ht7⟩⟩
      · have hltt:=HLT.out
        have hs22:=HS2.out
        have hs6:=HB6.out.size
        have hs67:=ht7.size
        have hbk7:∀ j,w.heap.size≤j→j < w6.heap.size→w7.heap[j]?=w6.heap[j]?:=fun j h1 h2=>ht7.block j h2 (by rintro (h | h | h | h) <;> omega)
        have hW7:Blk w7 w2.heap.size 128 #[.slice A L cap]:=(hbk7 _ (by omega) HW1.out.lt).trans HW1.out
        have hD7:Blk w7 w4.heap.size 98 #[.int .i64 ((d0:Nat):Int),.int .i64 ((d1:Nat):Int),.int .i64 ((d2:Nat):Int),.int .i64 ((d3:Nat):Int)]:=(hbk7 _ (by have:=HS4.out;omega) HD6.out.lt).trans HD6.out
        have hR7:RowAt w7.drew (w2.heap.size+1) 1 (.slice A L cap) L (fV (wayF g page L)):=RowAt.keep HW2.out (fun j hj=>hbk7 j (by have:=(HW2.out.lt j hj).1;omega) (HW2.out.lt j hj).2) hs67
        obtain⟨v9,w9,r9,hr9,hg9⟩:=run_append_rows (P:=Tryz.prog) (w:=w7.drew) (w2.heap.size+1) 128 128 3 iI (.int .i64 0) 1 8 Tryz.underlying128 HII.out HI0.out HI1.out HI2.out rfl (by decide) _ L _ hR7 v2 (4 - L) (fV m) (Rd.of_rowAt (show RowAt w7.drew w6.heap.size 1 v2 (4 - L) (fV m) from hrow)) (by unfold maxLen;omega) (by omega) (by show w2.heap.size+1≤w7.heap.size;have:=hW7.lt;omega)
        rw[show L+(4 - L)=4 by omega,show fV (wayF g page L) ++ fV m=fV (wayF g page L ++ m) from by unfold fV;rw[List.map_append]] at hr9
        obtain⟨gq,oq,cq,rfl,hcq,hcells⟩:=hr9.some_ (by omega)
        have hgq:=hr9.lt gq rfl
        have hB9:Below (w2.heap.size+1) w7.drew w9:=(Below.refl _ _).grown hg9 (by show w2.heap.size+1≤w7.heap.size;have:=hW7.lt;omega) (fun j hj=>(hR7.lt j hj).1)
        have hD9:Blk w9 w4.heap.size 98 #[.int .i64 ((d0:Nat):Int),.int .i64 ((d1:Nat):Int),.int .i64 ((d2:Nat):Int),.int .i64 ((d3:Nat):Int)]:=(hg9.block w4.heap.size (by show w4.heap.size < w7.heap.size;exact hD7.lt) (fun e=>by
          have h1:=(hR7.lt w4.heap.size e.symm).1
          rcases HMN.out w4.heap.size (.inr e.symm) with (h | h) | h
          · omega
          · cases h
          · simp only[World.size_alloc] at h;omega)).trans hD7
        have hW9:Blk w9 w2.heap.size 128 #[.slice A L cap]:=(hB9.block _ (Nat.lt_succ_self _)).trans hW7
        have hB9':Below w.heap.size w7 w9:=Below.mono ((Below.refl (w2.heap.size+1) w7).drew.trans hB9) (by omega)
        have hta:=Took.all HP.out.ok m htk
        have hwl:∀ j,j < 4→(wayF g page L ++ m).getD j 0 < 1024:=fun j hj=>by
          by_cases c:j < L
          · rw[gaL _ _ _ (by rw[wayF_length];exact c)]
            have e:(wayF g page L).getD j 0=g j (page / dv j) - 1:=by unfold wayF;simp[c]
            rw[e]
            have h1:=HG.out.nod.le j (page / dv j) (by omega)
            have h2:=HLY.out j c
            omega
          · rw[gaR _ _ _ (by rw[wayF_length];omega),wayF_length]
            exact (hta.2 _ (getD_mem_or _ _ _ (by omega))).1
        have hul:u < 18446744073709551616:=by
          have h1:=numE_lt HXO.out
          have h2:=HV.out
          omega
        have PT:=Lib.hid (tput_any gT gR gF gP r gS gL page gq oq cq (wayF g page L ++ m) bad ⟨F',hadP p m,putB bl true (zI m),u⟩ w9 (Blk.below (ht7.blk (Blk.below HG.out.tr HB6.out (Blk.lt HG.out.tr)) (by have h1:=HD.out.d;have h2:=HD.out.fT;rintro (h | h | h | h);exact h1.tP h;exact h1.tS h;exact h1.tL h;exact h2 h.symm)) hB9' (by omega)) (hm7.below hB9' (by omega) (by omega)) HBD.out (hp7.bel hB9' (by omega)) (hs7.far (hB9'.block _ (by omega)) (hB9'.block _ (by omega))) HD.out hul hgq.2 (by rintro (h | h | h | h) <;> omega)
          (fun j hj=>hcells j _ (by unfold fV;rw[List.getElem?_map];have:j < (wayF g page L ++ m).length:=by rw[List.length_append,wayF_length];omega
                                    have hx:(wayF g page L ++ m)[j]?=some ((wayF g page L ++ m).getD j 0):=by rw[List.getD_eq_getElem?_getD,List.getElem?_eq_getElem this];rfl
                                    rw[hx]
                                    rfl)) hwl)
        rw[HDG.out] at PT
        have R9:=Lib.hid r9
        have SD:=Lib.hid (show w7.drew.cell? ⟨w2.heap.size,0,none⟩=some (.slice A L cap)∧w7.drew.cell? ⟨w4.heap.size,0,none⟩=some (.int .i64 ((d0:Nat):Int))∧w7.drew.cell? ⟨w4.heap.size,1,none⟩=some (.int .i64 ((d1:Nat):Int))∧w7.drew.cell? ⟨w4.heap.size,2,none⟩=some (.int .i64 ((d2:Nat):Int))∧w7.drew.cell? ⟨w4.heap.size,3,none⟩=some (.int .i64 ((d3:Nat):Int)) from ⟨hW7.cell 0,hD7.cell 0,hD7.cell 1,hD7.cell 2,hD7.cell 3⟩)
        have S9:=Lib.hid (show w9.cell? ⟨w2.heap.size,0,none⟩=some (.slice A L cap)∧w9.cell? ⟨w4.heap.size,0,none⟩=some (.int .i64 ((d0:Nat):Int))∧w9.cell? ⟨w4.heap.size,1,none⟩=some (.int .i64 ((d1:Nat):Int))∧w9.cell? ⟨w4.heap.size,2,none⟩=some (.int .i64 ((d2:Nat):Int))∧w9.cell? ⟨w4.heap.size,3,none⟩=some (.int .i64 ((d3:Nat):Int)) from ⟨hW9.cell 0,hD9.cell 0,hD9.cell 1,hD9.cell 2,hD9.cell 3⟩)
        have KP:=Lib.hid (show ∀ w',Turns (fun k=>k=gP∨k=gS∨k=gL∨k=gF) w9 w'→(w'.cell? ⟨w2.heap.size,0,none⟩=some (.slice A L cap)∧w'.cell? ⟨w4.heap.size,0,none⟩=some (.int .i64 ((d0:Nat):Int))∧w'.cell? ⟨w4.heap.size,1,none⟩=some (.int .i64 ((d1:Nat):Int))∧w'.cell? ⟨w4.heap.size,2,none⟩=some (.int .i64 ((d2:Nat):Int))∧w'.cell? ⟨w4.heap.size,3,none⟩=some (.int .i64 ((d3:Nat):Int))) from fun w' ht=>by
          have h1:=ht.blk hW9 (by rintro (h | h | h | h) <;> omega)
          have h2:=ht.blk hD9 (by have:=HS4.out;rintro (h | h | h | h) <;> omega)
          exact⟨h1.cell 0,h2.cell 0,h2.cell 1,h2.cell 2,h2.cell 3⟩)
        have T9:=Lib.hid ((((Turns.of_below HB6.out (Nat.le_refl _)).trans ht7).drew).bel (hB9.mono (by omega)):Turns (fun k=>k=gP∨k=gS∨k=gL∨k=gF) w w9)
        have HML:=Lib.hid hml
        have HTK:=Lib.hid htk
        have HZ7:=Lib.hid hz7
        have HO7:=Lib.hid ho7
        have HLG:=Lib.hid (show ∀ f,f < 1024→(F' f).length=64 from fun f hf=>hm7.long hf)
        clear hltt hs22 hs6 hs67 hbk7 hW7 hD7 hR7 r9 hr9 hg9 hcq hcells hgq hB9 hD9 hW9 hB9' hta hwl hul hml htk hrow hm7 hz7 ho7 hp7 hs7 ht7
        go_wp2_with fail
        go_region_held3 (fun w'=>w'.cell? ⟨w2.heap.size,0,none⟩=some (.slice A L cap)∧w'.cell? ⟨w4.heap.size,0,none⟩=some (.int .i64 ((d0:Nat):Int))∧w'.cell? ⟨w4.heap.size,1,none⟩=some (.int .i64 ((d1:Nat):Int))∧w'.cell? ⟨w4.heap.size,2,none⟩=some (.int .i64 ((d2:Nat):Int))∧w'.cell? ⟨w4.heap.size,3,none⟩=some (.int .i64 ((d3:Nat):Int)))
          (first | assumption | exact SD.out | exact S9.out)
          (first
            | (with_reducible refine step_append_run rfl (.tmp 61) (.tmp 62) 128 rfl (.slice A L cap) v2 rfl rfl _ _ R9.out ?_)
            | (go_at_call 189;refine PT.out.mono ?_;rintro ee w10 ⟨rfl,s',hs',h1,h2,h3,h4⟩;have S10:=KP.out w10 h4))
        have H1:=Lib.hid h1
        have H2:=Lib.hid h2
        have H3:=Lib.hid h3
        have H4:=Lib.hid (T9.out.trans h4)
        have H5:=Lib.hid hs'
        clear h1 h2 h3 h4 hs'
        go_wp2_with fail
        go_ret
        exact⟨L,hL1,hL4,HLY.out,HLN.out,.inr (.inr ⟨m,F',s',H40.out,HML.out,HTK.out,HZ7.out,HO7.out,HLG.out,rfl,H5.out,H1.out,H2.out,H3.out,H4.out⟩)⟩
      · have N1:=Lib.hid hml
        have N2:=Lib.hid htk
        have N3:=Lib.hid hno
        have N4:=Lib.hid hp7
        have N5:=Lib.hid hs7
        have N6:=Lib.hid ((Turns.of_below HB6.out (Nat.le_refl _)).trans ht7:Turns (fun k=>k=gP∨k=gS∨k=gL) w w7)
        clear hml htk hno hp7 hs7 ht7
        go_wp2_with fail
        go_ret
        exact⟨L,hL1,hL4,HLY.out,HLN.out,.inr (.inl ⟨m,H40.out,N1.out,N2.out,N3.out,rfl,N4.out,N5.out,N6.out⟩)⟩
end Go.Proofs.YtaonpmclkafjdaaGreat
namespace Go.Proofs.YtaonpmclkafjdaaGreat
open Go.RowKit
set_option linter.unusedVariables false
theorem tset_no (q:Option Addr) (page z k n:Int) (b:Bool) (w:World) (hz:z≠0) (h:∀ W,Below w.heap.size w W→Calls Tryz.prog 44 #[.pointer q,.int .i64 page] W fun e w'=>e=.returned (.int .i64 z)∧W=w') :
    Calls Tryz.prog 149 #[.pointer q,.int .i64 page,.agg #[.int .i64 k,.int .i64 n,.bool b]] w fun e w'=>e=.returned (.int .i64 z)∧Below w.heap.size w w':=by
  have hB0:=(Below.refl w.heap.size w).alloc (Nat.le_refl _) (.cells #[.int .i64 k,.int .i64 n,.bool b] 29)
  have HB0:=Lib.hid hB0
  have MY:=Lib.hid (h _ hB0)
  have t1:(z != 0)=true:=by simp[hz]
  clear h hB0 hz
  go_enter Tryz.func149,Tryz.ntmps149
  go_wp2_with fail
  refine MY.out.mono ?_
  rintro ee w1 ⟨rfl,rfl⟩
  go_wp2_with fail
  go_ret
  exact⟨rfl,HB0.out⟩
theorem tset_bad (gT gR gP r gS page:Nat) (k n:Int) (b:Bool) (w:World) (hT:TreeB w gT gR gP r gS) (hp:page < 4096) (hx:¬ EnOk ⟨k,n,b⟩) :
    Calls Tryz.prog 149 #[.pointer (some ⟨gT,0,none⟩),.int .i64 (page:Int),.agg #[.int .i64 k,.int .i64 n,.bool b]] w fun e w'=>e=.returned (.int .i64 8)∧Below w.heap.size w w':=by
  have hB0:=(Below.refl w.heap.size w).alloc (Nat.le_refl _) (.cells #[.int .i64 k,.int .i64 n,.bool b] 29)
  have HB0:=Lib.hid hB0
  have MY:=Lib.hid (tmay_in gT gR gP r gS page _ (Blk.below hT hB0 (Blk.lt hT)) hp)
  have EN:=Lib.hid (enc_any k n b (w.alloc (.cells #[.int .i64 k,.int .i64 n,.bool b] 29)))
  have HX:=Lib.hid hx
  clear hT hB0 hx
  go_enter Tryz.func149,Tryz.ntmps149
  go_wp2_with fail
  refine MY.out.mono ?_
  rintro ee w1 ⟨rfl,rfl⟩
  go_wp2_with fail
  refine EN.out.mono ?_
  rintro ee w2 ⟨u,er,rfl,he,hb2⟩
  obtain⟨rfl,rfl⟩:er=8∧u=0:=by
    rcases he with ⟨h1,_⟩ | ⟨_,h2,h3⟩
    · exact absurd h1 HX.out
    · exact⟨h2,h3⟩
  have HB2:=Lib.hid (HB0.out.trans (hb2.mono HB0.out.size))
  clear he hb2
  go_wp2_with fail
  go_ret
  exact⟨rfl,HB2.out⟩
end Go.Proofs.YtaonpmclkafjdaaGreat
namespace Go.Proofs.YtaonpmclkafjdaaGreat
open Go.RowKit
set_option linter.unusedVariables false
end Go.Proofs.YtaonpmclkafjdaaGreat
namespace Go.Proofs.YtaonpmclkafjdaaGreat
open Go.RowKit
set_option linter.unusedVariables false
set_option maxRecDepth 20000 in
set_option maxHeartbeats 1600000 in
theorem tnew_any (gR gF gP:Nat) (F:Nat→List Nat) (bad:Nat→Bool) (p:PS) (w:World) (hM:Mem w gR gF 1024 F bad) (hP:PoolIn w gP p) (h1:gR≠gP) (h2:gF≠gP) (hb:∀ f,f < 1024→bad f=false) :
    Calls Tryz.prog 88 #[.pointer (some ⟨gR,0,none⟩),.pointer (some ⟨gP,0,none⟩)] w fun e w' =>
      (∃ gT gS gL f F',e=.returned (.tuple #[.pointer (some ⟨gT,0,none⟩),.int .i64 0])∧FirstF p 2 (2 ^ 0) (some f)∧TreeB w' gT gR gP f gS∧SetAt w' gS gL (putB (List.replicate 1024 false) true (zI [f]))∧Mem w' gR gF 1024 F' bad∧F' f=zer∧(∀ x,x≠f→F' x=F x)∧PoolIn w' gP ⟨p.u.set f 2,p.z,p.i⟩∧(w.heap.size≤gT∧w.heap.size≤gS∧w.heap.size≤gL)∧Dif gT gP gS gL∧Turns (fun k=>k=gP∨k=gF) w w') ∨
      (FirstF p 2 (2 ^ 0) none∧e=.returned (.tuple #[.pointer none,.int .i64 4])∧PoolIn w' gP p∧Turns (fun k=>k=gP) w w'):=by
  have RN:=Lib.hid (runs_new 1024 w)
  have HM:=Lib.hid hM
  have HP:=Lib.hid hP
  have HBD:=Lib.hid hb
  have HLT:=Lib.hid (show gR < w.heap.size∧gF < w.heap.size∧gP < w.heap.size from ⟨hM.lt.1,hM.lt.2,PoolMem.lt hP _ rfl⟩)
  clear hM hP hb
  go_enter Tryz.func88,Tryz.ntmps88
  go_wp2_with fail
  refine RN.out.mono ?_
  rintro e w1 ⟨gS,K,rfl,⟨gL,rfl,k1,k2,k3,k4⟩,hK,hb1⟩
  have hlt:=HLT.out
  have hc:cutN 1024=1024:=by decide
  rw[hc] at k1 k2 k4
  have hS1:SetAt w1 gS gL (List.replicate 1024 false):=⟨k1,k2,k3,List.length_replicate⟩
  have hgS:=hK gS (.inl rfl)
  have hgL:=hK gL (.inr rfl)
  have hB2:=hb1.alloc hb1.size (.cells (treeV gR gP 0 gS) 174)
  have T2:=Lib.hid (show TreeB (w1.alloc (.cells (treeV gR gP 0 gS) 174)) w1.heap.size gR gP 0 gS from Blk.new w1 _ _)
  have hS2:SetAt (w1.alloc (.cells (treeV gR gP 0 gS) 174)) gS gL (List.replicate 1024 false):=hS1.fresh ((Below.refl _ _).alloc (Nat.le_refl _) _)
  have hsz:=hb1.size
  have hl1:=hS1.lt
  have HD:=Lib.hid (show Dif2 w1.heap.size gR gF gP gS gL from ⟨⟨by omega,by omega,by omega,by omega,by omega⟩,h1,by omega,by omega,h2,by omega,by omega,by omega⟩)
  have AD:=Lib.hid (tadd_any w1.heap.size gR gF gP 0 gS gL 1 F bad p (List.replicate 1024 false) _ T2.out (HM.out.below hB2 HM.out.lt.1 HM.out.lt.2) HBD.out (HP.out.fresh hB2) hS2 HD.out (by omega))
  have HB2:=Lib.hid hB2
  have HGS:=Lib.hid (show w.heap.size≤w1.heap.size∧w.heap.size≤gS∧w.heap.size≤gL from ⟨hsz,hgS,hgL⟩)
  unfold treeV at AD
  clear k1 k2 k3 k4 hK hb1 hlt hc hS1 hS2 hgS hgL hB2 hsz hl1
  go_wp2_with fail
  refine AD.out.mono ?_
  rintro e w3 ⟨m,⟨hml,htk,v,F',rfl,hrow,hm3,hz3,ho3,hp3,hs3,ht3⟩ | ⟨hml,htk,hno,rfl,hp3,hs3,ht3⟩⟩
  · obtain⟨f,rfl⟩:∃ f,m=[f]:=by
      match m,hml with
      | [f],_=>exact⟨f,rfl⟩
    obtain⟨gv,ov,cv,rfl,hcv,hcc⟩:=hrow.some_ (by omega)
    have cc:w3.cell? ⟨gv,ov+0,none⟩=some (.int .i64 (f:Int)):=hcc 0 _ rfl
    rw[Nat.add_zero] at cc
    have hT3:TreeB w3 w1.heap.size gR gP 0 gS:=ht3.blk T2.out (by have h:=HD.out;have h':=h.d;rintro (e | e | e | e);exact h'.tP e;exact h'.tS e;exact h'.tL e;exact h.fT e.symm)
    have c2:w3.cell? ⟨w1.heap.size,2,none⟩=some (.int .i64 ((0:Nat):Int)):=Blk.cell hT3 2
    have f2:w3.frozen? ⟨w1.heap.size,2,none⟩=false:=Blk.frozen hT3 2
    have HT3:=Lib.hid hT3
    have HTK:=Lib.hid htk
    have HM3:=Lib.hid hm3
    have HZ3:=Lib.hid hz3
    have HO3:=Lib.hid ho3
    have HP3:=Lib.hid hp3
    have HS3:=Lib.hid hs3
    have HU3:=Lib.hid ht3
    have hcv1:1≤cv:=hcv
    clear hml htk hrow hm3 hz3 ho3 hp3 hs3 ht3 hT3 hcc hcv
    go_wp2_with fail
    go_ret2
    have hlt:=HLT.out
    have hgs:=HGS.out
    have hd:=HD.out
    have TW:Turns (fun k=>k=w1.heap.size) w3 (w3.setCell ⟨w1.heap.size,2,none⟩ (.int .i64 (f:Int))):=Turns.of_only ((Only.refl _ w3).setCell 2 _) rfl
    refine .inl ⟨w1.heap.size,gS,gL,f,F',rfl,HTK.out 0 (by simp),HT3.out.set_ 2 _,HS3.out.turns TW (fun e=>hd.d.tS e.symm) (fun e=>hd.d.tL e.symm),HM3.out.turns TW (by omega) (by omega),HZ3.out f (by simp),fun x hx=>HO3.out x (by simp[hx]),?_,hgs,hd.d,?_⟩
    · exact HP3.out.turns TW (fun e=>hd.d.tP e.symm)
    · have h3:=HB2.out.size
      refine⟨TW.os.trans (HU3.out.os.trans HB2.out.os),TW.tape.trans (HU3.out.tape.trans HB2.out.tape),TW.output.trans (HU3.out.output.trans HB2.out.output),Nat.le_trans (Nat.le_trans h3 HU3.out.size) TW.size,fun j hj hn=>?_⟩
      have h4:=HU3.out.size
      simp only[World.size_alloc] at h3 h4
      exact (TW.block j (by omega) (by omega)).trans ((HU3.out.block j (by simp only[World.size_alloc];omega) (by rintro (e | e | e | e);exact hn (.inl e);omega;omega;exact hn (.inr e))).trans (HB2.out.block j hj))
  · obtain rfl:m=[]:=List.eq_nil_of_length_eq_zero (by omega)
    have HNO:=Lib.hid hno
    have HP3:=Lib.hid hp3
    have HU3:=Lib.hid ht3
    clear hml htk hno hp3 hs3 ht3
    go_wp2_with fail
    go_ret2
    refine .inr ⟨HNO.out,rfl,HP3.out,?_⟩
    have hlt:=HLT.out
    have hgs:=HGS.out
    have h3:=HB2.out.size
    refine⟨HU3.out.os.trans HB2.out.os,HU3.out.tape.trans HB2.out.tape,HU3.out.output.trans HB2.out.output,Nat.le_trans h3 HU3.out.size,fun j hj hn=>?_⟩
    exact (HU3.out.block j (by simp only[World.size_alloc] at h3 ⊢;omega) (by rintro (e | e | e);exact hn e;omega;omega)).trans (HB2.out.block j hj)
end Go.Proofs.YtaonpmclkafjdaaGreat
namespace Go.Proofs.YtaonpmclkafjdaaGreat
open Go.RowKit
set_option linter.unusedVariables false
theorem mem_bads10 {bl:List Bool}(h:bl.length=1024){f:Nat}:f∈bads bl 1024↔bl.getD f false=true:=by
  constructor
  · exact fun hf=>(bads_lt hf).2
  · intro hf
    rcases Nat.lt_or_ge f 1024 with c | c
    · exact mem_bads c hf
    · rw[List.getD_eq_getElem?_getD,List.getElem?_eq_none (by omega)] at hf
      cases hf
theorem bads_pw (l:List Bool)(k:Nat):(bads l k).Pairwise (fun a b=>a < b):=(List.pairwise_lt_range (n:=k)).filter _
theorem bads_nodup (l:List Bool)(k:Nat):(bads l k).Nodup:=(bads_pw l k).imp fun {a b} h=>by omega
theorem Nod.zero {g:Nat→Nat→Nat}{t:Nat→Prop}{page:Nat}(h:Nod g t page 0)(pg:Nat):Nod g t pg 0 :=
  ⟨h.root,h.out,h.le,h.mem,h.inj,h.up,fun l q h0 h4 hn _=>h.some l q h0 h4 hn (by omega)⟩
theorem Con.zero {g:Nat→Nat→Nat}{F:Nat→List Nat}{page:Nat}(h:Con g F page 0)(pg:Nat):Con g F pg 0 :=
  fun l q f j hl hg hj _=>h l q f j hl hg hj (by omega)
theorem numE_ne {x:En}(h:EnOk x):numE x≠0↔x.k≠0:=by
  rw[Ne,numE_zero h]
  constructor
  · intro hn hk
    refine hn ?_
    obtain⟨k,n,w⟩:=x
    unfold EnOk at h
    simp only at h hk
    subst hk
    obtain⟨h1,h2⟩:n=0∧w=false:=by
      rcases h with h | h | ⟨_,h⟩
      · omega
      · omega
      · exact h
    rw[h1,h2]
  · rintro hn rfl
    exact hn rfl
theorem pages_iff {e:List En}(he:∀ x∈e,EnOk x)(hl:e.length=4096){g4:Nat→Nat}(hg:∀ q,g4 q=numE (e.getD q en0))(q:Nat):q∈pagesOf e↔g4 q≠0:=by
  rw[pagesOf_mem,hg,numE_ne (getE_ok he q)]
  constructor
  · exact fun h=>h.2
  · intro h
    refine⟨?_,h⟩
    rcases Nat.lt_or_ge q 4096 with c | c
    · exact c
    · rw[List.getD_eq_getElem?_getD,List.getElem?_eq_none (by omega)] at h
      exact absurd rfl h
theorem ts_ok_ {w:World}{gT gR gP r gS gL:Nat}{F:Nat→List Nat}{bl:List Bool}{g:Nat→Nat→Nat}{e:List En}(h:TreeG w gT gR gP r gS gL F bl g e){T:List Nat}(h1:T.Pairwise (fun a b=>a < b))(h2:∀ f∈T,f < 1024)(h3:∀ f,f∈T↔bl.getD f false=true):TsOk ⟨e,T,true⟩:=by
  refine⟨h.el,h.eok,h1,h2,fun _=>?_,fun h=>by cases h⟩
  have hn:Nod g (·∈T) 0 0:=by
    have e:(fun f=>f∈T)=fun f=>bl.getD f false=true:=funext fun f=>propext (h3 f)
    rw[e]
    exact h.nod
  exact hn.count (h1.imp fun {a b} h=>by omega) (fun q=>pages_iff h.eok h.el h.pg q)
theorem ts_ok {w:World}{gT gR gP r gS gL:Nat}{F:Nat→List Nat}{bl:List Bool}{g:Nat→Nat→Nat}{e:List En}(h:TreeG w gT gR gP r gS gL F bl g e):TsOk ⟨e,bads bl 1024,true⟩ :=
  ts_ok_ h (bads_pw bl 1024) (fun f hf=>(bads_lt hf).1) (fun f=>mem_bads10 h.st.2.2.2)
attribute [local irreducible] bads
def TreeMem (w:World)(gT:Nat)(KT:Nat→Prop)(gR gP:Nat)(F:Nat→List Nat)(s:TS):Prop :=
  TsOk s∧((s.live=true∧∃ gS gL r bl g,KT=(fun k=>k=gT∨k=gS∨k=gL)∧Dif gT gP gS gL∧s.t=bads bl 1024∧TreeG w gT gR gP r gS gL F bl g s.e) ∨
    (s.live=false∧KT=(fun k=>k=gT)∧Blk w gT 174 treeD∧s.t=[]))
section
variable {w w':World}{gT gR gP:Nat}{KT:Nat→Prop}{F F':Nat→List Nat}{s:TS}
theorem TreeMem.lt (h:TreeMem w gT KT gR gP F s):∀ k,KT k→k < w.heap.size:=by
  obtain⟨_,⟨_,gS,gL,r,bl,g,rfl,_,_,hG⟩ | ⟨_,rfl,hB,_⟩⟩:=h
  · rintro k (rfl | rfl | rfl)
    · exact Blk.lt hG.tr
    · exact hG.st.lt.1
    · exact hG.st.lt.2
  · rintro k rfl
    exact hB.lt
theorem TreeMem.ok (h:TreeMem w gT KT gR gP F s):TsOk s:=h.1
theorem TreeMem.far (h:TreeMem w gT KT gR gP F s)(hk:∀ k,KT k→w'.heap[k]?=w.heap[k]?):TreeMem w' gT KT gR gP F s:=by
  obtain⟨h0,⟨hl,gS,gL,r,bl,g,rfl,hD,ht,hG⟩ | ⟨hl,rfl,hB,ht⟩⟩:=h
  · exact⟨h0,.inl ⟨hl,gS,gL,r,bl,g,rfl,hD,ht,{ tr:=(hk gT (.inl rfl)).trans hG.tr,st:=hG.st.far (hk gS (.inr (.inl rfl))) (hk gL (.inr (.inr rfl))),nod:=hG.nod,con:=hG.con,root:=hG.root,pg:=hG.pg,el:=hG.el,eok:=hG.eok }⟩⟩
  · exact⟨h0,.inr ⟨hl,rfl,(hk gT rfl).trans hB,ht⟩⟩
theorem TreeMem.frames (h:TreeMem w gT KT gR gP F s)(hF:∀ f,f∈s.t→F' f=F f):TreeMem w gT KT gR gP F' s:=by
  obtain⟨h0,⟨hl,gS,gL,r,bl,g,rfl,hD,ht,hG⟩ | ⟨hl,rfl,hB,ht⟩⟩:=h
  · refine⟨h0,.inl ⟨hl,gS,gL,r,bl,g,rfl,hD,ht,{ tr:=hG.tr,st:=hG.st,nod:=hG.nod,con:=?_,root:=hG.root,pg:=hG.pg,el:=hG.el,eok:=hG.eok }⟩⟩
    intro l q f j hl4 hg hj hx
    rw[hF f (by rw[ht];exact (mem_bads10 hG.st.2.2.2).2 ((hG.nod.mem f).2 ⟨l,q,hl4,hg⟩))]
    exact hG.con l q f j hl4 hg hj hx
  · exact⟨h0,.inr ⟨hl,rfl,hB,ht⟩⟩
theorem TreeMem.fresh (h:TreeMem w gT KT gR gP F s)(hb:Below w.heap.size w w'):TreeMem w' gT KT gR gP F s:=h.far fun k hk=>hb.block k (h.lt k hk)
end
def Apart (gR gF:Nat)(K KT:Nat→Prop):Prop:=¬ K gR∧¬ K gF∧¬ KT gR∧¬ KT gF∧∀ k,K k→¬ KT k
def NewK (w:World)(K K':Nat→Prop):Prop:=∀ k,K' k→K k∨w.heap.size≤k
def NoBad (bad:Nat→Bool):Prop:=∀ f,f < 1024→bad f=false
def TreePost (w:World)(gT gR gF gP:Nat)(K KT:Nat→Prop)(F:Nat→List Nat)(bad:Nat→Bool)(p:PS)(s:TS)(F':Nat→List Nat)(p':PS)(s':TS)(w':World):Prop :=
  ∃ K' KT',Mem w' gR gF 1024 F' bad∧PoolMem w' gP K' p'∧TreeMem w' gT KT' gR gP F' s'∧Apart gR gF K' KT'∧NewK w K K'∧NewK w KT KT'∧(∀ f,f ∉ s.t→p.u.getD f 0≠1→F' f=F f)∧Turns (fun k=>K k∨KT k∨k=gF) w w'
theorem set_same {l:List En}{k:Nat}{x:En}(hk:k < l.length)(h:l.getD k en0=x):l.set k x=l:=by
  refine List.ext_getElem (by simp) fun i h1 h2=>?_
  by_cases c:i=k
  · subst c
    rw[List.getElem_set_self]
    rw[← h]
    simp[h2]
  · rw[List.getElem_set_ne (fun e=>c e.symm)]
theorem new_G {w:World} {gT gR gP gS gL f:Nat} {F:Nat→List Nat} {bl:List Bool} (hf:f < 1024) (h1:TreeB w gT gR gP f gS) (h2:SetAt w gS gL bl) (h3:∀ x,bl.getD x false=true↔x=f) (h4:F f=zer) :
    TreeG w gT gR gP f gS gL F bl (fun l q=>if l=0∧q=0 then f+1 else 0) (List.replicate 4096 en0):=by
  have hr:∀ q,(List.replicate 4096 en0).getD q en0=en0:=fun q=>by
    rw[List.getD_eq_getElem?_getD,List.getElem?_replicate]
    split <;> rfl
  refine { tr:=h1,st:=h2,nod:=?_,con:=?_,root:=rfl,pg:=fun q=>?_,el:=List.length_replicate,eok:=fun x hx=>?_ }
  · refine { root:=by simp,out:=?_,le:=?_,mem:=?_,inj:=?_,up:=?_,some:=?_ }
    · intro q hq
      by_cases c:q=0
      · exact c
      · exact absurd (if_neg (fun h=>c h.2)) hq
    · intro l q _
      show (if l=0∧q=0 then f+1 else 0)≤1024
      split <;> omega
    · intro x
      rw[h3 x]
      constructor
      · rintro rfl
        exact⟨0,0,by omega,rfl⟩
      · rintro⟨l,q,_,e⟩
        have e':(if l=0∧q=0 then f+1 else 0)=x+1:=e
        split at e' <;> omega
    · intro l q l' q' _ _ e hne
      have e':(if l=0∧q=0 then f+1 else 0)=if l'=0∧q'=0 then f+1 else 0:=e
      have hne':(if l=0∧q=0 then f+1 else 0)≠0:=hne
      split at e'
      · split at e'
        · omega
        · omega
      · rename_i c
        rw[if_neg c] at hne'
        exact absurd rfl hne'
    · intro l q _ hne
      exact absurd (if_neg (by omega)) hne
    · intro l q h0 _ hne
      exact absurd (if_neg (by omega)) hne
  · intro l q x j _ hg hj _
    have e':(if l=0∧q=0 then f+1 else 0)=x+1:=hg
    split at e'
    · obtain rfl:x=f:=by omega
      rw[h4,numJ_zer j hj]
      exact (if_neg (by omega)).symm
    · omega
  · show (if 4=0∧q=0 then f+1 else 0)=_
    rw[if_neg (by omega),hr q]
    rfl
  · rw[List.eq_of_mem_replicate hx]
    exact en0_ok
theorem bads_one {bl:List Bool}{f:Nat}(hl:bl.length=1024)(h:∀ x,bl.getD x false=true↔x=f):bads bl 1024=[f]:=by
  refine List.perm_singleton.1 ((List.perm_ext_iff_of_nodup (bads_nodup _ _) (by simp)).2 fun x=>?_)
  rw[mem_bads10 hl,List.mem_singleton]
  exact h x
theorem one_mem {f:Nat}(hf:f < 1024)(x:Nat):(putB (List.replicate 1024 false) true (zI [f])).getD x false=true↔x=f:=by
  have h:=putB_at (b:=List.replicate 1024 false) (c:=true) (m:=[f]) (fun y hy=>by rw[List.mem_singleton.1 hy,List.length_replicate];exact hf) x
  have e:zI [f]=[f].map (fun (f:Nat)=>(f:Int)):=rfl
  rw[e,h]
  by_cases c:x=f
  · rw[if_pos (by simp[c])]
    simp[c]
  · rw[if_neg (by simp[c]),List.getD_eq_getElem?_getD,List.getElem?_replicate]
    split <;> simp[c]
def MoreT (s:TS)(p:PS)(page:Int)(x:En)(er:Nat)(s':TS):Prop :=
  (er=4→s.t.length+cntF p 2 < tablesN (pagesOf (s.e.set page.toNat x)))∧∀ f∈s'.t,f ∉ s.t→p.z.getD (f / 32) 0=2∧p.i.getD (f / 32) false=false
theorem MoreT.same {s:TS}{p:PS}{page:Int}{x:En}{er:Nat}(h:er≠4):MoreT s p page x er s:=⟨fun e=>absurd e h,fun f hf hn=>absurd hf hn⟩
theorem Took.zone {p:PS}{m:List Nat}(h:Took p m):∀ f∈m,p.z.getD (f / 32) 0=2∧p.i.getD (f / 32) false=false:=by
  intro f hf
  obtain⟨j,hj,e⟩:=List.mem_iff_getElem.1 hf
  obtain⟨⟨_,_,h3,h4,_⟩,_⟩:=h j hj
  have e2:m.getD j 0=f:=by
    rw[List.getD_eq_getElem?_getD,List.getElem?_eq_getElem hj,Option.getD_some,e]
  rw[e2] at h3 h4
  exact⟨h3,h4⟩
theorem Took.cnt {p:PS}(hp:PsOk p){m:List Nat}(h:Took p m)(hn:FirstF (hadP p m) 2 (2 ^ 0) none):cntF p 2≤m.length:=by
  obtain⟨h1,h2⟩:=h.all hp
  unfold cntF
  refine List.Nodup.length_le_of_subset ((List.nodup_range).filter _) fun f hf=>?_
  obtain⟨hf1,hf2⟩:=List.mem_filter.1 hf
  have hf1:=List.mem_range.1 hf1
  obtain⟨u1,z1,z2⟩:=of_decide_eq_true hf2
  rcases Classical.em (f∈m) with c | c
  · exact c
  · refine absurd ?_ (hn f)
    refine⟨Nat.mod_one f,hf1,z1,z2,fun k k1 k2=>?_⟩
    obtain rfl:k=f:=by omega
    rw[hadP_u p m (fun f hf=>by rw[hp.u];exact (h2 f hf).1),if_neg c]
    exact u1
section
variable (gT gR gF gP:Nat)(K KT:Nat→Prop)(F:Nat→List Nat)(bad:Nat→Bool)(p:PS)(s:TS)(w:World)
theorem tree_new (hM:Mem w gR gF 1024 F bad) (hP:PoolMem w gP K p) (h1:¬ K gR) (h2:¬ K gF) (hb:NoBad bad) :
    Calls Tryz.prog 88 #[.pointer (some ⟨gR,0,none⟩),.pointer (some ⟨gP,0,none⟩)] w fun e w'=>∃ r,FirstF p 2 (2 ^ 0) r ∧
      match r with
      | none=>e=.returned (.tuple #[.pointer none,.int .i64 4])∧∃ K',Mem w' gR gF 1024 F bad∧PoolMem w' gP K' p∧NewK w K K'∧¬ K' gR∧¬ K' gF∧Turns K w w'
      | some r=>∃ gT F' K' KT',e=.returned (.tuple #[.pointer (some ⟨gT,0,none⟩),.int .i64 0])∧Mem w' gR gF 1024 F' bad∧PoolMem w' gP K' ⟨p.u.set r 2,p.z,p.i⟩∧TreeMem w' gT KT' gR gP F' ⟨List.replicate 4096 en0,[r],true⟩∧Apart gR gF K' KT'∧NewK w K K'∧(∀ k,KT' k→w.heap.size≤k)∧(∀ f,f≠r→F' f=F f)∧Turns (fun k=>K k∨k=gF) w w':=by
  obtain⟨hP',rfl⟩:=PoolIn.of hP
  refine (tnew_any gR gF gP F bad p w hM hP' h1 h2 hb).mono ?_
  rintro e w' (⟨gT,gS,gL,f,F',rfl,k1,k2,k3,k4,k5,k6,k7,k8,k9,k10⟩ | ⟨k1,rfl,k2,k3⟩)
  · have hf:f < 1024:=k1.1.2.1
    have h3:=one_mem hf
    have hG:=new_G hf k2 k3 h3 k5
    have ht:=bads_one k3.2.2.2 h3
    have hlt:=hM.lt
    refine⟨some f,k1,gT,F',_,_,rfl,k4,k7,⟨?_,.inl ⟨rfl,gS,gL,f,_,_,rfl,k9,ht.symm,hG⟩⟩,⟨h1,h2,?_,?_,?_⟩,fun k hk=>.inl hk,?_,k6,k10⟩
    · have:=ts_ok hG
      rw[ht] at this
      exact this
    · rintro (e | e | e) <;> omega
    · rintro (e | e | e) <;> omega
    · rintro k rfl (e | e | e)
      · exact k9.tP e.symm
      · exact k9.pS e
      · exact k9.pL e
    · rintro k (e | e | e) <;> omega
  · exact⟨none,k1,rfl,_,hM.turns k3 h1 h2,k2,fun k hk=>.inl hk,h1,h2,k3⟩
theorem tree_set2 (page k n:Int) (b:Bool) (hM:Mem w gR gF 1024 F bad) (hP:PoolMem w gP K p) (hT:TreeMem w gT KT gR gP F s) (hd:Apart gR gF K KT) (hb:NoBad bad) (hu:∀ f∈s.t,p.u.getD f 0=2) (hl:s.live=true) :
    Calls Tryz.prog 149 #[.pointer (some ⟨gT,0,none⟩),.int .i64 page,.agg #[.int .i64 k,.int .i64 n,.bool b]] w fun e w'=>∃ (er:Nat) (F':Nat→List Nat) (p':PS) (s':TS),e=.returned (.int .i64 (er:Int))∧SetIs s p page ⟨k,n,b⟩ er s' p'∧TreePost w gT gR gF gP K KT F bad p s F' p' s' w'∧MoreT s p page ⟨k,n,b⟩ er s':=by
  obtain⟨hP',rfl⟩:=PoolIn.of hP
  obtain⟨hok,hT0⟩:=id hT
  rcases hT0 with ⟨_,gS,gL,r,bl,g,rfl,hD,ht,hG⟩ | ⟨h,_⟩
  rotate_left
  · rw[hl] at h;cases h
  obtain⟨a1,a2,a3,a4,a5⟩:=id hd
  have same:∀ w',Below w.heap.size w w'→TreePost w gT gR gF gP (fun k=>k=gP) (fun k=>k=gT∨k=gS∨k=gL) F bad p s F p s w':=fun w' hb' =>
    ⟨_,_,hM.below hb' hM.lt.1 hM.lt.2,hP.fresh hb',hT.fresh hb',hd,fun k hk=>.inl hk,fun k hk=>.inl hk,fun f _ _=>rfl,Turns.of_below hb' (Nat.le_refl _)⟩
  by_cases hp:page < 0∨4095 < page
  · refine (tset_no _ page 1 k n b w (by omega) (fun W hW=>tmay_out gT gR gP r gS page W (Blk.below hG.tr hW (Blk.lt hG.tr)) hp)).mono ?_
    rintro e w' ⟨rfl,h2⟩
    exact⟨1,F,p,s,rfl,.inl ⟨hp,rfl,rfl,rfl⟩,same w' h2,MoreT.same (by decide)⟩
  · have hp':0≤page∧page≤4095:=by omega
    obtain⟨pg,rfl⟩:=Int.eq_ofNat_of_zero_le hp'.1
    have hpg:pg < 4096:=by omega
    by_cases hx:EnOk ⟨k,n,b⟩
    rotate_left
    · refine (tset_bad gT gR gP r gS pg k n b w hG.tr hpg hx).mono ?_
      rintro e w' ⟨rfl,h2⟩
      exact⟨8,F,p,s,rfl,.inr ⟨hp',.inl ⟨hx,rfl,rfl,rfl⟩⟩,same w' h2,MoreT.same (by decide)⟩
    have hD2:Dif2 gT gR gF gP gS gL:=⟨hD,fun e=>a1 e,fun e=>a3 (.inr (.inl e)),fun e=>a3 (.inr (.inr e)),fun e=>a2 e,fun e=>a4 (.inr (.inl e)),fun e=>a4 (.inr (.inr e)),fun e=>a4 (.inl e)⟩
    refine (tset_live gT gR gF gP r gS gL pg k n b F bad p bl g s.e w hG hM hb hP' hD2 hpg hx).mono ?_
    have hbl:=hG.st.2.2.2
    have hul:p.u.length=1024:=hP'.ok.u
    have htu:∀ f,bl.getD f false=true→p.u.getD f 0=2:=fun f hf=>hu f (by rw[ht];exact (mem_bads10 hbl).2 hf)
    obtain⟨v,hv⟩:∃ v,v=numE ⟨k,n,b⟩:=⟨_,rfl⟩
    rw[← hv]
    have hvl:v < 18446744073709551616:=by have:=numE_lt hx;omega
    have hx0:(⟨k,n,b⟩:En).k≠0↔v≠0:=by rw[hv,numE_ne hx]
    have hsl:pg < s.e.length:=by rw[hG.el];exact hpg
    have hge:∀ q,(s.e.set pg ⟨k,n,b⟩).getD q en0=if q=pg then ⟨k,n,b⟩ else s.e.getD q en0:=fun q=>by
      by_cases c:q=pg
      · rw[c,if_pos rfl,getD_set_same _ _ _ _ hsl]
      · rw[if_neg c,getD_set_ne _ _ _ _ _ c]
    rintro e w' ⟨L,hL1,hL4,hLy,hLn,⟨hL,hv0,rfl,h2⟩ | ⟨m,hno,hml,htk,hfn,rfl,h1,h2,h3⟩ | ⟨m,F',s',hno,hml,htk,hz,hF,hlen,rfl,hs',h1,h2,h3,h4⟩⟩
    · -- nothing to say, and nowhere to say it
      have hz:g 4 pg=0:=by
        obtain⟨j,rfl⟩:∃ j,L=j+1:=⟨L - 1,by omega⟩
        exact hG.nod.down (by omega) (hLn hL)
      have hx1:(⟨k,n,b⟩:En)=en0:=(numE_zero hx).1 (hv.symm.trans hv0)
      have he:s.e.set pg ⟨k,n,b⟩=s.e:=by
        refine set_same hsl ?_
        rw[hx1]
        refine (numE_zero (getE_ok hG.eok pg)).1 ?_
        rw[← hG.pg pg]
        exact hz
      refine⟨0,F,p,s,rfl,.inr ⟨hp',.inr (.inr ⟨hx,rfl,?_,hl,⟨rfl,rfl,fun f hf=>?_,fun f hf hn=>absurd hf hn,rfl⟩⟩)⟩,same w' h2,MoreT.same (by decide)⟩
      · rw[Int.toNat_natCast];exact he.symm
      · by_cases c:f∈s.t
        · rw[if_pos c];exact hu f c
        · rw[if_neg c,if_neg c]
    · -- there are not as many frames as it wants
      have hta:=htk.all hP'.ok
      have hL:L < 4:=by omega
      have hv0:v≠0:=fun h=>hno ⟨hL,h⟩
      have hm:∀ f∈m,bl.getD f false=false:=fun f hf=>by
        cases hc:bl.getD f false with
        | false=>rfl
        | true=>have h5:=htu f hc;have h6:=(hta.2 f hf).2;omega
      rw[show putB bl false (zI m)=bl from putB_out hm] at h2
      have hcnt:=htk.cnt hP'.ok hfn
      have hlt4:∀ q,q≤m.length→s.t.length+q < tablesN (pagesOf (s.e.set (Int.toNat (pg:Int)) ⟨k,n,b⟩)):=by
        intro q hq
        have hn:Nod g (·∈s.t) pg 0:=by
          have e:(fun f=>f∈s.t)=fun f=>bl.getD f false=true:=funext fun f=>propext (by rw[ht];exact mem_bads10 hbl)
          rw[e]
          exact hG.nod.zero pg
        have hc:=hn.count_more (ps:=pagesOf s.e) (ps':=pagesOf (s.e.set (Int.toNat (pg:Int)) ⟨k,n,b⟩)) (L:=L) (hok.sorted.imp fun {a b} h=>by omega) (fun q=>pages_iff hG.eok hG.el hG.pg q) (fun q=>?_) hL1 hL4 hLy (fun l h5 h6=>?_)
        · rw[hc];omega
        · rw[Int.toNat_natCast,pagesOf_mem,hge q]
          by_cases c:q=pg
          · rw[if_pos c]
            simp only[c,or_true,iff_true]
            exact⟨hpg,hx0.2 hv0⟩
          · rw[if_neg c]
            simp only[c,or_false]
            rw[← pagesOf_mem]
            exact pages_iff hG.eok hG.el hG.pg q
        · have hz:∀ j,j≤3 - L→g (L+j) (pg / dv (L+j))=0:=by
            intro j
            induction j with
            | zero=>intro _;exact hLn hL
            | succ j ih =>
              intro hj
              exact hG.nod.zero pg |>.up_ (l:=L+j) (by omega) (ih (by omega))
          have:=hz (l - L) (by omega)
          rwa [show L+(l - L)=l by omega] at this
      refine⟨4,F,p,s,rfl,.inr ⟨hp',.inr (.inl ⟨hx,rfl,rfl,rfl,fun hall=>hlt4 _ (htk.full hP'.ok hfn hall)⟩)⟩,?_,fun _=>hlt4 _ hcnt,fun f hf hn=>absurd hf hn⟩
      · refine⟨_,_,hM.turns h3 (by rintro (e | e | e);exact hD2.rP e;exact hD2.rS e;exact hD2.rL e) (by rintro (e | e | e);exact hD2.fP e;exact hD2.fS e;exact hD2.fL e),h1,⟨hok,.inl ⟨hl,gS,gL,r,bl,g,rfl,hD,ht,?_⟩⟩,hd,fun k hk=>.inl hk,fun k hk=>.inl hk,fun f _ _=>rfl,h3.mono fun k hk=>?_⟩
        · exact { tr:=h3.blk hG.tr (by rintro (e | e | e);exact hD.tP e;exact hD.tS e;exact hD.tL e),st:=h2,nod:=hG.nod,con:=hG.con,root:=hG.root,pg:=hG.pg,el:=hG.el,eok:=hG.eok }
        · rcases hk with h | h | h
          · exact .inl h
          · exact .inr (.inl (.inr (.inl h)))
          · exact .inr (.inl (.inr (.inr h)))
    · -- it is said
      have hta:=htk.all hP'.ok
      have hmt:∀ f∈m,¬ bl.getD f false=true:=fun f hf h=>by have h5:=htu f h;have h6:=(hta.2 f hf).2;omega
      have hLz:∀ l,L≤l→l < 4→g l (pg / dv l)=0:=fun l h5 h6=>by
        have hz:∀ j,L+j < 4→g (L+j) (pg / dv (L+j))=0:=by
          intro j
          induction j with
          | zero=>intro hj;exact hLn hj
          | succ j ih =>
            intro hj
            exact hG.nod.zero pg |>.up_ (l:=L+j) (by omega) (ih (by omega))
        have:=hz (l - L) (by omega)
        rwa [show L+(l - L)=l by omega] at this
      have hpb:=putB_at (b:=bl) (c:=true) (m:=m) (fun f hf=>by rw[hbl];exact (hta.2 f hf).1)
      have hhad:=hadP_u p m (fun f hf=>by rw[hul];exact (hta.2 f hf).1)
      obtain⟨g0,hg0⟩:=(hG.nod.zero pg).fill (F:=F) (F0:=F') (b:=putB bl true (zI m)) (p:=hadP p m) (p0:=p) (m:=m) (v:=v) (hG.con.zero pg) hpg hL1 hL4 hLy hLz hml hta.1 hmt (fun f hf=>(hta.2 f hf).1) hvl hF hz hlen
        (fun f=>by
          show _↔(putB bl true (m.map (fun (f:Nat)=>(f:Int)))).getD f false=true
          rw[hpb f]
          by_cases c:f∈m
          · rw[if_pos c];simp[c]
          · rw[if_neg c];simp only[c,or_false])
        (by rw[putB_length];exact hbl) (hadP_ok hP'.ok m) rfl rfl
        (fun f hf=>by
          rw[hhad f]
          by_cases c:f∈m
          · rw[if_pos c]
          · rw[if_neg c];exact htu f (hf.resolve_right c))
        (fun f hf=>by rw[hhad f,if_neg (fun c=>hf (.inr c))])
      obtain⟨g',t',hgo⟩:=hg0.all hpg
      have hs2:s'=([3,2,1,0]:List Nat).foldl (putStep (wayF g pg L ++ m) pg) ⟨F',hadP p m,putB bl true (zI m),v⟩:=hs'
      rw[show (List.map (fun l=>g l (pg / dv l) - 1) (List.range L))=wayF g pg L from rfl,← hs2] at hgo
      have het:t'=fun f=>s'.b.getD f false=true:=funext fun f=>propext (hgo.mem f)
      have hmem:∀ f,f∈bads s'.b 1024↔t' f:=fun f=>(mem_bads10 hgo.len).trans (hgo.mem f).symm
      have hT':TreeB w' gT gR gP r gS:=h4.blk hG.tr (by rintro (e | e | e | e);exact hD.tP e;exact hD.tS e;exact hD.tL e;exact hD2.fT e.symm)
      have hG':TreeG w' gT gR gP r gS gL s'.F s'.b g' (s.e.set pg ⟨k,n,b⟩) :=
        { tr:=hT',st:=h3,nod:=het ▸ hgo.nod.zero 0,con:=hgo.con.zero 0,root:=hgo.root.trans hG.root,pg:=fun q=>by
            rw[hgo.four q,hge q]
            by_cases c:q=pg
            · rw[if_pos c,if_pos c];exact hv
            · rw[if_neg c,if_neg c];exact hG.pg q,el:=by rw[List.length_set];exact hG.el,eok:=fun x hx'=>by
            rcases List.mem_or_eq_of_mem_set hx' with h | h
            · exact hG.eok x h
            · rw[h];exact hx }
      have hst:∀ f,f∈s.t↔bl.getD f false=true:=fun f=>by rw[ht];exact mem_bads10 hbl
      have hu':∀ f,f < 1024→s'.p.u.getD f 0=if f∈bads s'.b 1024 then 2 else if f∈s.t then 1 else p.u.getD f 0:=fun f hf=>by
        by_cases c:t' f
        · rw[if_pos ((hmem f).2 c)];exact hgo.u2 f c
        · rw[if_neg (fun h=>c ((hmem f).1 h))]
          by_cases c2:f∈s.t
          · rw[if_pos c2];exact hgo.u1 f (.inl ((hst f).1 c2)) c
          · rw[if_neg c2]
            by_cases c3:f∈m
            · rw[hgo.u1 f (.inr c3) c,(hta.2 f c3).2]
            · exact hgo.u0 f (fun h=>h.elim (fun h=>c2 ((hst f).2 h)) c3)
      have hnew:∀ f,f∈bads s'.b 1024→f ∉ s.t→p.u.getD f 0=1:=fun f hf hn=>by
        rcases hgo.sub f ((hmem f).1 hf) with h | h
        · exact absurd ((hst f).2 h) hn
        · exact (hta.2 f h).2
      have hzn:∀ f∈bads s'.b 1024,f ∉ s.t→p.z.getD (f / 32) 0=2∧p.i.getD (f / 32) false=false:=fun f hf hn=>by
        rcases hgo.sub f ((hmem f).1 hf) with h | h
        · exact absurd ((hst f).2 h) hn
        · exact htk.zone f h
      refine⟨0,s'.F,s'.p,⟨s.e.set pg ⟨k,n,b⟩,bads s'.b 1024,true⟩,rfl,.inr ⟨hp',.inr (.inr ⟨hx,rfl,by rw[Int.toNat_natCast],rfl,⟨hgo.z,hgo.i,hu',hnew,?_⟩⟩)⟩,?_,fun h=>absurd h (by decide),hzn⟩
      · exact free_step (hok.sorted.imp fun {a b} h=>by omega) (bads_nodup _ _) hok.tlt (fun f hf=>(bads_lt hf).1) hu hnew hu'
      · refine⟨_,_,h1,h2,⟨ts_ok hG',.inl ⟨rfl,gS,gL,r,s'.b,g',rfl,hD,rfl,hG'⟩⟩,hd,fun k hk=>.inl hk,fun k hk=>.inl hk,fun f hf hn=>?_,h4.mono fun k hk=>?_⟩
        · exact hgo.F f (fun h=>h.elim (fun h=>hf ((hst f).2 h)) (fun h=>hn (hta.2 f h).2))
        · rcases hk with h | h | h | h
          · exact .inl h
          · exact .inr (.inl (.inr (.inl h)))
          · exact .inr (.inl (.inr (.inr h)))
          · exact .inr (.inr h)
theorem tree_get (page:Nat) (hp:page < 4096) (hM:Mem w gR gF 1024 F bad) (hT:TreeMem w gT KT gR gP F s) (hb:NoBad bad) (hl:s.live=true) :
    Calls Tryz.prog 13 #[.pointer (some ⟨gT,0,none⟩),.int .i64 (page:Int)] w fun e w'=>e=.returned (.tuple #[.agg (enV (s.e.getD page en0)),.int .i64 0])∧Below w.heap.size w w':=by
  obtain⟨_,⟨_,gS,gL,r,bl,g,rfl,hD,ht,hG⟩ | ⟨h,_⟩⟩:=hT
  · exact tget_live gT gR gF gP r gS gL page F bad bl g s.e w hG hM hb hp
  · rw[hl] at h;cases h
end
end Go.Proofs.YtaonpmclkafjdaaGreat
