/-
  A row of the call's own that begins anywhere in its block (what a cut at its front leaves): what append of one element makes of it. Nothing of the program is named here.
  Conditions: those that each line bears.
-/
import Derived.Test.YtaonpmclkafjdaaGreatQz00
import Derived.ArgAppend
set_option linter.unusedSimpArgs false
set_option linter.unusedSectionVars false
set_option linter.unusedVariables false
namespace Go.Proofs.YtaonpmclkafjdaaGreat
open Go.RowKit
set_option linter.unusedVariables false
def RowAt (w:World)(base size:Nat)(v:Value)(n:Nat)(xs:List Value):Prop :=
  xs.length=n * size∧(∀ u∈xs,u.oneCell'=true) ∧
  ((v=.slice none 0 0∧n=0)∨∃ g o cap,v=.slice (some ⟨g,o,none⟩) n cap∧n≤cap∧cap≤maxLen∧base≤g∧g < w.heap.size ∧
    (∀ j u,xs[j]?=some u→w.cell? ⟨g,o+j,none⟩=some u)∧∀ j,j < cap * size→(w.cell? ⟨g,o+j,none⟩).isSome=true∧w.frozen? ⟨g,o+j,none⟩=false)
section
variable {w w':World}{base size n:Nat}{v:Value}{xs:List Value}
theorem RowAt.nil_ (w:World)(base size:Nat):RowAt w base size (.slice none 0 0) 0 []:=⟨by simp,fun u h=>absurd h List.not_mem_nil,.inl ⟨rfl,rfl⟩⟩
theorem RowAt.of_own {e:TypeId}(h:w.ownsRow base e size v n xs)(h1:∀ u∈xs,u.oneCell'=true):RowAt w base size v n xs:=by
  have hc:=fun g hg=>h.cells (g:=g) hg
  rcases h.2 with ⟨rfl,rfl⟩ | ⟨g,cap,cur,rfl,hb,hg,hn,hm,hs,ht⟩
  · exact⟨h.1,h1,.inl ⟨rfl,rfl⟩⟩
  · have hlt:g < w.heap.size:=by
      rcases Nat.lt_or_ge g w.heap.size with c | c
      · exact c
      · rw[Array.getElem?_eq_none c] at hg;cases hg
    refine⟨h.1,h1,.inr ⟨g,0,cap,rfl,hn,hm,hb,hlt,fun j u hu=>?_,fun j hj=>?_⟩⟩
    · have:=hc g rfl j u hu
      rwa [Addr.add_lit] at this
    · rw[Nat.zero_add]
      refine⟨?_,?_⟩
      · simp only[World.cell?,hg]
        rw[Array.getElem?_eq_getElem (by omega)]
        rfl
      · simp[World.frozen?,hg]
theorem RowAt.keep (h:RowAt w base size v n xs)(hk:∀ k,v.ownBlock=some k→w'.heap[k]?=w.heap[k]?)(hs:w.heap.size≤w'.heap.size):RowAt w' base size v n xs:=by
  obtain⟨h1,h2,h | ⟨g,o,cap,rfl,h3,h4,h5,h6,h7,h8⟩⟩:=h
  · exact⟨h1,h2,.inl h⟩
  · have hg:w'.heap[g]?=w.heap[g]?:=hk g rfl
    exact⟨h1,h2,.inr ⟨g,o,cap,rfl,h3,h4,h5,by omega,fun j u hj=>(World.cell?_of_block (a:=⟨g,o+j,none⟩) hg).trans (h7 j u hj),fun j hj=>⟨by rw[World.cell?_of_block (a:=⟨g,o+j,none⟩) hg];exact (h8 j hj).1,by rw[World.frozen?_of_block (a:=⟨g,o+j,none⟩) hg];exact (h8 j hj).2⟩⟩⟩
theorem RowAt.lt (h:RowAt w base size v n xs):∀ k,v.ownBlock=some k→base≤k∧k < w.heap.size:=by
  obtain⟨h1,h2,⟨rfl,_⟩ | ⟨g,o,cap,rfl,h3,h4,h5,h6,h7,h8⟩⟩:=h
  · intro k hk;cases hk
  · intro k hk
    simp only[Value.ownBlock,Option.some.injEq] at hk
    subst hk
    exact⟨h5,h6⟩
theorem RowAt.fresh (h:RowAt w base size v n xs)(hb:Below w.heap.size w w'):RowAt w' base size v n xs :=
  h.keep (fun k hk=>hb.block k (h.lt k hk).2) hb.size
theorem RowAt.mono {base':Nat}(h:RowAt w base size v n xs)(hb:base'≤base):RowAt w base' size v n xs:=by
  obtain⟨h1,h2,h | ⟨g,o,cap,rfl,h3,h4,h5,h6⟩⟩:=h
  · exact⟨h1,h2,.inl h⟩
  · exact⟨h1,h2,.inr ⟨g,o,cap,rfl,h3,h4,Nat.le_trans hb h5,h6⟩⟩
theorem RowAt.some_ (h:RowAt w base size v n xs)(hn:0 < n):∃ g o cap,v=.slice (some ⟨g,o,none⟩) n cap∧n≤cap∧∀ j u,xs[j]?=some u→w.cell? ⟨g,o+j,none⟩=some u:=by
  obtain⟨h1,h2,⟨_,h0⟩ | ⟨g,o,cap,rfl,h3,h4,h5,h6,h7,h8⟩⟩:=h
  · omega
  · exact⟨g,o,cap,rfl,h3,h7⟩
theorem RowAt.len (h:RowAt w base size v n xs):∃ A cap,v=.slice A n cap∧n≤cap:=by
  obtain⟨h1,h2,⟨rfl,rfl⟩ | ⟨g,o,cap,rfl,h3,h4,h5,h6,h7,h8⟩⟩:=h
  · exact⟨_,_,rfl,Nat.le_refl _⟩
  · exact⟨_,_,rfl,h3⟩
end
section
variable {P:Program}{w:World}
theorem run_append_at (base:Nat) (t ty e:TypeId) (i:TypeInfo) (z:Value) (size bytes:Nat) (ht:P.underlying t=some (.slice e)) (hi:P.info? e=some i) (hz:i.zero=some z)
    (hsize:i.size=size) (hby:i.bytes=bytes) (hzs:z.cells.size=size) (hsz:0 < size)
    (v:Value) (n:Nat) (xs:List Value) (h:RowAt w base size v n xs) (ad:Addr) (c:Nat) (us:List Value) (hl:us.length=size) (hu:∀ j u,us[j]?=some u→w.cell? (ad.add j)=some u) (h1:∀ u∈us,u.oneCell'=true)
    (h63:n+1≤maxLen) (hbytes:(n+1) * bytes≤140737488355328) (hbase:base≤w.heap.size) :
    ∃ v' w',(Builtin.append_ #[t,t] ty #[v,.slice (some ad) 1 c]).run P w=.ok v' w'∧RowAt w' base size v' (n+1) (xs ++ us)∧w.grownBy w' v.ownBlock∧(v'.ownBlock=v.ownBlock∨∀ k,v'.ownBlock=some k→w.heap.size≤k):=by
  subst hsize
  obtain⟨h2,h3,⟨rfl,rfl⟩ | ⟨g,o,cap,rfl,k3,k4,k5,k6,k7,k8⟩⟩:=h
  · obtain rfl:xs=[]:=List.eq_nil_of_length_eq_zero (by simpa using h2)
    obtain⟨v',w',hrun,r1,r2,_⟩:=run_append_own (P:=P) w w.heap.size t ty e i z i.size bytes ht hi hz rfl hby hzs hsz (.slice none 0 0) 0 [] (World.ownsRow_nil w _ e i.size) ad 1 c us (by rw[hl,Nat.one_mul]) hu h1 (by simpa using h63) (by simpa using hbytes) (Nat.le_refl _)
    exact⟨v',w',hrun,(RowAt.of_own r1 (by simpa using h1)).mono hbase,r2,.inr fun k hk=>(r1.lt k hk).1⟩
  · by_cases hr:n+1≤cap
    · have hcs:∀ j,j < us.length→n * i.size+j < cap * i.size:=fun j hj=>by
        have:=Nat.mul_le_mul_right i.size hr
        rw[Nat.add_mul,Nat.one_mul] at this
        omega
      have ea:∀ j,o+n * i.size+j=o+(n * i.size+j):=fun j=>Nat.add_assoc _ _ _
      have hsome:∀ j,j < us.length→(w.cell? ⟨g,o+n * i.size+j,none⟩).isSome=true:=fun j hj=>by rw[ea];exact (k8 _ (hcs j hj)).1
      have hrun:=run_append_room_cells (P:=P) w t ty e i ht hi g o n cap ad 1 c us (by rw[hl,Nat.one_mul]) hu h1 hr hsome (fun j hj=>by rw[ea];exact (k8 _ (hcs j hj)).2)
      refine⟨_,_,hrun,⟨by rw[List.length_append,h2,hl,Nat.add_mul,Nat.one_mul],fun u hm=>(List.mem_append.1 hm).elim (h3 u) (h1 u),.inr ⟨g,o,cap,rfl,hr,k4,k5,?_,fun j u hj=>?_,fun j hj=>?_⟩⟩,?_,.inl rfl⟩
      · have:=(Only.setCells us (o+n * i.size) (Only.refl g w)).1.size
        omega
      · by_cases hjo:j < xs.length
        · rw[World.cell?_setCells_out g _ _ _ _ (fun _ _=>Or.inl (by show o+j < o+n * i.size;omega))]
          rw[List.getElem?_append_left hjo] at hj
          exact k7 j u hj
        · rw[List.getElem?_append_right (by omega)] at hj
          have hlt:j - xs.length < us.length:=(List.getElem?_eq_some_iff.1 hj).1
          have:=World.cell?_setCells_in g us (o+n * i.size) w hsome (j - xs.length) hlt
          rw[ea,show n * i.size+(j - xs.length)=j by omega] at this
          rw[this,← hj,List.getElem?_eq_getElem hlt]
      · refine⟨?_,(World.frozen?_setCells g _ _ _ _).trans (k8 j hj).2⟩
        by_cases hin:n * i.size≤j∧j < n * i.size+us.length
        · have:=World.cell?_setCells_in g us (o+n * i.size) w hsome (j - n * i.size) (by omega)
          rw[ea,show n * i.size+(j - n * i.size)=j by omega] at this
          rw[this];rfl
        · rw[World.cell?_setCells_out g _ _ _ _ (fun _ _=>(by show o+j < o+n * i.size∨o+n * i.size+us.length≤o+j;omega))]
          exact (k8 j hj).1
      · exact (Only.setCells us (o+n * i.size) (Only.refl g w)).1
    · obtain⟨v',w',hrun,r1,r2⟩:=run_append_arg_grows (P:=P) w t ty e i z i.size bytes ht hi hz rfl hby hzs hsz ⟨g,o,none⟩ n cap xs h2 (fun j u hj=>by rw[Addr.add_lit];exact k7 j u hj) ad 1 c us (by rw[hl,Nat.one_mul]) hu (by omega) h63 hbytes
      refine⟨v',w',hrun,(RowAt.of_own r1 (fun u hm=>(List.mem_append.1 hm).elim (h3 u) (h1 u))).mono hbase,?_,.inr fun k hk=>(r1.lt k hk).1⟩
      exact⟨r2.os,r2.tape,r2.output,r2.size,fun k hk _=>r2.block k hk (by simp)⟩
theorem wpList_append_at {ops:Array Oper} {rest:List Oper} {o:Oper} {a:Act} {Q:Exit→Act→World→Prop} (hgd:o.guard=none) (s x:Operand) (t:TypeId)
    (ho:o.op=.call { callee:=.builtin .append,args:=#[s,x],argTypes:=#[t,t] })
    (base:Nat) (e:TypeId) (i:TypeInfo) (z:Value) (size bytes:Nat) (ht:P.underlying t=some (.slice e)) (hi:P.info? e=some i) (hz:i.zero=some z)
    (hsize:i.size=size) (hby:i.bytes=bytes) (hzs:z.cells.size=size) (hsz:0 < size)
    (v:Value) (n:Nat) (xs:List Value) (hs:a.eval s=v) (h:RowAt w base size v n xs) (ad:Addr) (c:Nat) (us:List Value) (hx:a.eval x=.slice (some ad) 1 c) (hl:us.length=size) (hu:∀ j u,us[j]?=some u→w.cell? (ad.add j)=some u) (h1:∀ u∈us,u.oneCell'=true)
    (h63:n+1≤maxLen) (hbytes:(n+1) * bytes≤140737488355328) (hbase:base≤w.heap.size)
    (hK:∀ v' w',RowAt w' base size v' (n+1) (xs ++ us)→w.grownBy w' v.ownBlock→(v'.ownBlock=v.ownBlock∨∀ k,v'.ownBlock=some k→w.heap.size≤k)→wpList P ops Q rest (a.put o.dst v') w'):wpList P ops Q (o :: rest) a w:=by
  refine wpList_plain hgd fun K hK'=>?_
  obtain⟨v',w',hrun,r1,r2,r3⟩:=run_append_at (P:=P) base t o.type e i z size bytes ht hi hz hsize hby hzs hsz v n xs h ad c us hl hu h1 h63 hbytes hbase
  unfold Oper.wp
  simp[execOp,ho,resolve,invoke,builtin,hs,hx,hrun,Result.andThen]
  exact hK' _ _ (hK v' w' r1 r2 r3)
end
theorem cells_new (w:World)(t:TypeId)(us:List Value):∀ j u,us[j]?=some u→(w.alloc (.cells us.toArray t)).cell? ((⟨w.heap.size,0,none⟩:Addr).add j)=some u:=by
  intro j u h
  rw[Addr.add_lit,Nat.zero_add,(Blk.new w t us.toArray).cell j]
  simpa using h
section
variable {P:Program}{w:World}
end
end Go.Proofs.YtaonpmclkafjdaaGreat
