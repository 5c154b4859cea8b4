/-
  The library's sort of pages.
  The pages of a cache, sorted: Collect, SortedFunc, the library's Keys.
  The places of a set, sorted: Collect, SortedFunc, the set's own sorted; Of.
  The places of a set, sorted, as the program asks for them: SortedFunc over Keys; Of.
  Conditions: those that each line bears.
-/
import Derived.Test.YtaonpmclkafjdaaGreatQz27
import Derived.Shelf.SlSortCmp.NoneTotal
set_option linter.unusedSimpArgs false
set_option linter.unusedSectionVars false
set_option linter.unusedVariables false
namespace Go.Proofs.YtaonpmclkafjdaaGreat
open Go.RowKit Go.Shelf Go.Lib Go.Sort
set_option linter.unusedVariables false
end Go.Proofs.YtaonpmclkafjdaaGreat
namespace Go.Proofs.YtaonpmclkafjdaaGreat
open Go.RowKit Go.Shelf Go.Lib Go.Sort
set_option linter.unusedVariables false
end Go.Proofs.YtaonpmclkafjdaaGreat
namespace Go.Proofs.YtaonpmclkafjdaaGreat
open Go.RowKit Go.Shelf Go.Lib Go.Sort
set_option linter.unusedVariables false
theorem aggPlaceW (w:World):(isAgg 60).run Tryz.prog w=.ok true w:=Tryz.isAgg60 w
theorem sizePlaceW (w:World):(Go.sizeOf 60).run Tryz.prog w=.ok 2 w:=Tryz.sizeOf60 w
theorem sortP_anyW (g cap base:Nat) (ss:List Pl) (w:World) (h:w.ownsRow base 60 2 (.slice (some ⟨g,0,none⟩) ss.length cap) ss.length (flatP ss)) (hn:ss.length≤1000000) :
    Calls Tryz.prog 196 #[.slice (some ⟨g,0,none⟩) ss.length cap,.func (.func 164) #[] #[]] w fun e w'=>e=.returned (.tuple #[]) ∧
      w'.ownsRow base 60 2 (.slice (some ⟨g,0,none⟩) ss.length cap) ss.length (flatP (srtd ss))∧w.grownBy w' (some g):=by
  have hlt:=(h.lt g rfl)
  have hcell:=h.cells (g:=g) rfl
  obtain⟨_,⟨e1,_⟩ | ⟨g',cap',cur,ev,hbase,hb,h1,h2,h3,h4⟩⟩:=h
  · cases e1
  · injection ev with ev1 _ ev3
    injection ev1 with ev1
    injection ev1 with ev1
    subst ev1 ev3
    have hH:HoldsK encL 2 w g 0 ss.toArray:=by
      unfold HoldsK
      rw[flatK_flatP]
      intro j hj
      have hj':j < (flatP ss).length:=by simpa using hj
      refine⟨?_,by simp[World.frozen?,hb]⟩
      have:=hcell j ((flatP ss)[j]) (List.getElem?_eq_getElem hj')
      rw[Addr.add_lit] at this
      rw[this]
      simp[getElem!_def,List.getElem?_eq_getElem hj']
    have hS:=AnyQ.slices_SortFunc_total Tryz.sortF196 2 aggPlaceW sizePlaceW encL (fun _=>rfl) (fun x v hv=>by simp[encL] at hv;rcases hv with rfl | rfl <;> rfl) cmpP cmpP_swo 164 #[] g 0 cap ss.toArray w
      (enters_of Tryz.func164 (by kernel_rfl) rfl) (cmpLaysPW g 0 _ w) hH hlt.2 (by simp;omega) (fun x y a b=>by
        rw[cmpP_lt] at a b
        exact Classical.byContradiction fun e=>(of_decide_eq_false b) (ltP.tri (of_decide_eq_false a) e))
    change Calls Tryz.prog 196 _ _ _ at hS
    simp only[List.size_toArray] at hS
    refine hS.mono ?_
    rintro e w' ⟨rfl,n,os,rfl⟩
    refine⟨rfl,?_,?_⟩
    · unfold sortWorldK putRowK
      rw[show (ss.mergeSort fun x y=>!ltOf cmpP y x)=srtd ss from rfl,flatK_flatP]
      have hl:(flatP (srtd ss)).length=ss.length * 2:=by rw[flatP_length,(srtd_perm ss).length_eq]
      have hl0:(flatP ss).length=ss.length * 2:=flatP_length ss
      have hcur:ss.length * 2≤cur.size:=by rw[h3];exact Nat.mul_le_mul_right 2 h1
      refine⟨hl,.inr ⟨g,cap,_,rfl,hbase,heap_putF _ hb,h1,h2,by simp[putCells,h3],?_⟩⟩
      have:=take_putF (cur:=cur) (flatP (srtd ss)).toArray (by simp only[List.size_toArray];omega)
      simp only[List.size_toArray] at this
      rw[← hl]
      exact this
    · unfold sortWorldK putRowK
      exact grown_putF _
end Go.Proofs.YtaonpmclkafjdaaGreat
namespace Go.Proofs.YtaonpmclkafjdaaGreat
open Go.RowKit Go.Shelf Go.Lib Go.Sort
set_option linter.unusedVariables false
set_option maxHeartbeats 1000000 in
theorem collectP_anyW {n:Nat} (hn:4≤n) (g:Nat) (lb:Array Value) (eg:∀ args w,(callFunc g args).run Tryz.prog w=.ok (.enter g args) w) (S:List Pl→Prop) (N:Nat) (hN:N≤1000000) (w:World)
    (hseq:SeqStopsK Fence.wide (n - 1 - 1) Tryz.prog g lb (fun p=>#[encP p]) KeepsWalks S (fun _=>True) N w) (hSN:∀ ss,S ss→ss.length≤N) :
    CallsIn Fence.wide n Tryz.prog 195 #[.func (.func g) #[] lb] w fun e w'=>∃ (v:Value) (ss:List Pl),e=.returned v∧S ss∧w'.ownsRow w.heap.size 60 2 v ss.length (flatP ss)∧(v=.slice none 0 0↔ss=[])∧Below w.heap.size w w':=by
  have hA:=appendP_anyW (n:=n - 1) (by omega) g lb eg S N hN w hseq hSN
  have hfA:Fence.wide.fn 235:=trivial
  have h1:1≤n:=by omega
  refine callsIn_of_wp Tryz.func195 rfl trivial ?_ rfl
  simp only[Tryz.ntmps195,List.size_toArray,List.length_cons,List.length_nil,Nat.reduceAdd,Nat.reduceSub,Array.replicate_succ,Array.replicate_zero,List.push_toArray,List.append_toArray,List.nil_append,List.cons_append]
  gi_wp2_with (gi_at_call 235;refine hA.mono ?_;rintro e w' ⟨v,ss,rfl,hS,hrow,hnil,hb⟩)
  go_ret
  exact⟨v,ss,rfl,hS,hrow,hnil,hb⟩
set_option maxRecDepth 100000 in
set_option maxHeartbeats 2000000 in
theorem sortedP_anyW {n:Nat} (hn:5≤n) (g:Nat) (lb:Array Value) (eg:∀ args w,(callFunc g args).run Tryz.prog w=.ok (.enter g args) w) (S:List Pl→Prop) (N:Nat) (hN:N≤1000000) (w:World)
    (hseq:SeqStopsK Fence.wide (n - 1 - 1 - 1) Tryz.prog g lb (fun p=>#[encP p]) KeepsWalks S (fun _=>True) N w) (hSN:∀ ss,S ss→ss.length≤N) :
    CallsIn Fence.wide n Tryz.prog 162 #[.func (.func g) #[] lb,.func (.func 164) #[] #[]] w fun e w'=>∃ (v:Value) (ss:List Pl),e=.returned v∧S ss∧w'.ownsRow w.heap.size 60 2 v ss.length (flatP (srtd ss))∧Below w.heap.size w w':=by
  have hC:=collectP_anyW (n:=n - 1) (by omega) g lb eg S N hN w hseq hSN
  have hfC:Fence.wide.fn 195:=trivial
  have hfS:Fence.wide.fn 196:=trivial
  have h1:1≤n:=by omega
  refine callsIn_of_wp Tryz.func162 rfl trivial ?_ rfl
  simp only[Tryz.ntmps162,List.size_toArray,List.length_cons,List.length_nil,Nat.reduceAdd,Nat.reduceSub,Array.replicate_succ,Array.replicate_zero,List.push_toArray,List.append_toArray,List.nil_append,List.cons_append]
  gi_wp2_with (gi_at_call 195;refine hC.mono ?_;rintro e W ⟨v,ss,rfl,hS,hrow,hnil,hb⟩)
  by_cases c:ss=[]
  · subst c
    obtain rfl:=hnil.2 rfl
    have cS:CallsIn Fence.wide (n - 1) Tryz.prog 196 #[.slice none 0 0,.func (.func 164) #[] #[]] W fun e w'=>e=.returned (.tuple #[])∧w'=W :=
      callsIn_wide.2 (AnyF.slices_SortFunc_none Tryz.sortF196 none 0 _ W)
    gi_wp2_with (gi_at_call 196;refine cS.mono ?_;rintro e w' ⟨rfl,rfl⟩)
    go_ret
    refine⟨.slice none 0 0,[],rfl,hS,?_,hb⟩
    rw[show srtd []=[] from by simp[srtd]]
    exact hrow
  · rcases hrow.2 with ⟨hv,_⟩ | ⟨gb,cap,cur,rfl,hbase,hgb,r1,r2,r3,r4⟩
    · exact absurd (hnil.1 hv) c
    · have cS:=callsIn_wide (n:=n - 1).2 (sortP_anyW gb cap _ ss W hrow (Nat.le_trans (hSN ss hS) hN))
      clear hgb r1 r2 r3 r4
      gi_wp2_with (gi_at_call 196;refine cS.mono ?_;rintro e w' ⟨rfl,hr2,hg2⟩)
      go_ret
      exact⟨_,ss,rfl,hS,hr2,hb.grown hg2 hb.size (fun j hj=>by cases hj;exact hbase)⟩
set_option maxHeartbeats 1000000 in
theorem keys_fnW (mb:Option Nat)(n:Nat)(w:World):CallsIn Fence.wide n Tryz.prog 163 #[.map mb] w fun e w'=>e=.returned (.func (.func 197) #[] #[.pointer (some ⟨w.heap.size,0,none⟩)])∧w'=w.alloc (.cells #[.map mb] 135):=by
  refine callsIn_of_wp Tryz.func163 rfl trivial ?_ rfl
  simp only[Tryz.ntmps163,List.size_toArray,List.length_cons,List.length_nil,Nat.reduceAdd,Nat.reduceSub,Array.replicate_succ,Array.replicate_zero,List.push_toArray,List.append_toArray,List.nil_append,List.cons_append]
  gi_wp2
  go_ret
  exact⟨rfl,rfl⟩
end Go.Proofs.YtaonpmclkafjdaaGreat
