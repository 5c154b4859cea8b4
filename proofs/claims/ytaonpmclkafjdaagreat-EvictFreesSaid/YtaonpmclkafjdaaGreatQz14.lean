/-
  A channel in one goroutine: what the calls of a queue of signals do.
  The contracts of a queue of signals, as the statements' walks ask for them: a channel that never waits.
  Conditions: those that each line bears.
-/
import Derived.Test.YtaonpmclkafjdaaGreatQz00
import Derived.Test.YtaonpmclkafjdaaGreatProg
import Derived.Test.YtaonpmclkafjdaaGreatQz13
import Derived.Conc.LoneCalls
import Derived.Conc.LoneSelect
import Derived.Conc.LoneSelectN
import Derived.KernelRfl
set_option linter.unusedSimpArgs false
set_option linter.unusedSectionVars false
set_option linter.unusedVariables false
namespace Go.Proofs.YtaonpmclkafjdaaGreat
open Go.RowKit Go.Conc
set_option linter.unusedVariables false
set_option maxRecDepth 100000
def agS (p:Pl):Value:=.agg #[.int .i64 p.c,.int .i64 p.g]
theorem infoSig:∃ i,Tryz.prog.info? 285=some i∧i.bytes=16:=by
  have h:(Tryz.prog.info? 285).map (·.bytes)=some 16:=by kernel_rfl
  obtain⟨i,hi,hb⟩:=Option.map_eq_some_iff.1 h
  exact⟨i,hi,hb⟩
theorem make_any (n:Nat)(hn:n≤16)(w:World):(Instr.makeChan 224 (.int .i64 (n:Int))).run Tryz.prog w=.ok (.chan (some w.heap.size)) (w.alloc (.chan n #[] false 0 0 false)):=by
  obtain⟨i,hi,hb⟩:=infoSig
  exact run_makeChan (P:=Tryz.prog) (w:=w) Tryz.underlying224 hi .i64 n (by omega) (by rw[hb];omega)
def near16' (n:Int):Nat:=if n < 0 then 0 else if 16 < n then 16 else n.toNat
theorem near16'_le (n:Int):near16' n≤16:=by
  unfold near16'
  split
  · omega
  · split <;> omega
theorem near16'_lo {n:Int}(h:n≤0):near16' n=0:=by
  unfold near16'
  split
  · rfl
  · split <;> omega
theorem near16'_hi {n:Int}(h:16≤n):near16' n=16:=by
  unfold near16'
  split
  · omega
  · split <;> omega
set_option maxHeartbeats 1000000 in
theorem signal_new0 (n:Int)(w:World):Calls Tryz.prog 89 #[.int .i64 n] w fun e w'=>e=.returned (.pointer (some ⟨w.heap.size+1,0,none⟩))∧w'=(w.alloc (.chan (near16' n) #[] false 0 0 false)).alloc (.cells #[.chan (some w.heap.size)] 226):=by
  by_cases c1:n≤0
  · have hmk:(Instr.makeChan 224 (.int .i64 0)).run Tryz.prog w=.ok (.chan (some w.heap.size)) (w.alloc (.chan 0 #[] false 0 0 false)):=make_any 0 (by omega) w
    have c2:n≤16:=by omega
    rw[near16'_lo c1]
    by_cases c3:n=0
    · subst c3
      go_enter Tryz.func89,Tryz.ntmps89
      go_wp2
      go_ret
      exact⟨rfl,rfl⟩
    · have c4:¬ 0≤n:=by omega
      go_enter Tryz.func89,Tryz.ntmps89
      go_wp2
      go_ret
      exact⟨rfl,rfl⟩
  · by_cases c2:16≤n
    · have hmk:(Instr.makeChan 224 (.int .i64 16)).run Tryz.prog w=.ok (.chan (some w.heap.size)) (w.alloc (.chan 16 #[] false 0 0 false)):=make_any 16 (by omega) w
      rw[near16'_hi c2]
      by_cases c3:n=16
      · subst c3
        go_enter Tryz.func89,Tryz.ntmps89
        go_wp2
        go_ret
        exact⟨rfl,rfl⟩
      · have c4:¬ n≤16:=by omega
        have c5:0≤n:=by omega
        go_enter Tryz.func89,Tryz.ntmps89
        go_wp2
        go_ret
        exact⟨rfl,rfl⟩
    · obtain⟨k,rfl⟩:=Int.eq_ofNat_of_zero_le (by omega:0≤n)
      have hmk:=make_any k (by omega) w
      rw[show near16' (k:Int)=k by unfold near16';rw[if_neg (by omega),if_neg (by omega)];rfl]
      have c4:¬ (k:Int)≤0:=c1
      have c8:(k:Int)≤16:=by omega
      have c9:k≤16:=by omega
      have c5:(0:Int)≤(k:Int):=by omega
      have c6:¬ k≤0:=by omega
      have c7:¬ k=0:=by omega
      go_enter Tryz.func89,Tryz.ntmps89
      go_wp2
      go_ret
      exact⟨rfl,rfl⟩
end Go.Proofs.YtaonpmclkafjdaaGreat
namespace Go.Proofs.YtaonpmclkafjdaaGreat
open Go.RowKit Go.Conc
set_option linter.unusedVariables false
set_option maxRecDepth 20000
def near16 (n:Int):Nat:=if n < 0 then 0 else if 16 < n then 16 else n.toNat
def SigMem (w:World)(gQ:Nat)(K:Nat→Prop)(m:Nat)(l:List Pl):Prop :=
  ∃ c s r,Blk w gQ 226 #[.chan (some c)]∧w.heap[c]?=some (.chan m (l.map agS).toArray false s r false)∧l.length≤m∧∀ k,K k↔k=gQ∨k=c
section
variable {w w':World}{gQ:Nat}{K:Nat→Prop}{m:Nat}{l:List Pl}
theorem SigMem.lt (h:SigMem w gQ K m l):∀ k,K k→k < w.heap.size:=by
  obtain⟨c,s,r,h1,h2,_,h4⟩:=h
  intro k hk
  rcases (h4 k).1 hk with rfl | rfl
  · exact h1.lt
  · exact (Array.getElem?_eq_some_iff.1 h2).1
theorem SigMem.far (h:SigMem w gQ K m l)(hk:∀ k,K k→w'.heap[k]?=w.heap[k]?):SigMem w' gQ K m l:=by
  obtain⟨c,s,r,h1,h2,h3,h4⟩:=h
  exact⟨c,s,r,(hk gQ ((h4 _).2 (.inl rfl))).trans h1,(hk c ((h4 _).2 (.inr rfl))).trans h2,h3,h4⟩
end
section
variable (gQ:Nat)(K:Nat→Prop)(m:Nat)(l:List Pl)(w:World)
theorem signal_new (n:Int):Calls Tryz.prog 89 #[.int .i64 n] w fun e w'=>∃ gQ K,e=.returned (.pointer (some ⟨gQ,0,none⟩))∧SigMem w' gQ K (near16 n) []∧(∀ k,K k→w.heap.size≤k)∧Below w.heap.size w w':=by
  refine (signal_new0 n w).mono ?_
  rintro e w' ⟨rfl,rfl⟩
  refine⟨_,fun k=>k=w.heap.size+1∨k=w.heap.size,rfl,⟨w.heap.size,0,0,Blk.new1 w _ _ _,?_,Nat.zero_le _,fun k=>Iff.rfl⟩,?_,((Below.refl _ w).alloc (Nat.le_refl _) _).alloc (by rw[World.size_alloc];omega) _⟩
  · exact (Below.heap_alloc _ _ _ (by rw[World.size_alloc];omega)).trans (heap_alloc_new w _)
  · rintro k (rfl | rfl)
    · omega
    · exact Nat.le_refl _
end
end Go.Proofs.YtaonpmclkafjdaaGreat
