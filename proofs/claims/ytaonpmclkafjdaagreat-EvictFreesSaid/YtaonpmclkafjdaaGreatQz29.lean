/-
  The places of a set, sorted: Collect, SortedFunc, the set's own sorted; Of.
  The places of a set, sorted, as the program asks for them: SortedFunc over Keys; Of.
  Of of the back map over the landed code: who has a frame, sorted.
  Of over the landed code: who holds a slot, sorted.
  Conditions: those that each line bears.
-/
import Derived.Test.YtaonpmclkafjdaaGreatQz27
import Derived.Test.YtaonpmclkafjdaaGreatQz22
import Derived.Shelf.SlSortCmp.NoneTotal
import Derived.Test.YtaonpmclkafjdaaGreatQz28
set_option linter.unusedSimpArgs false
set_option linter.unusedSectionVars false
set_option linter.unusedVariables false
namespace Go.Proofs.YtaonpmclkafjdaaGreat
open Go.RowKit Go.Shelf Go.Lib Go.Sort
set_option linter.unusedVariables false
theorem aggPlace (w:World):(isAgg 60).run Tryz.prog w=.ok true w:=Tryz.isAgg60 w
theorem sizePlace (w:World):(Go.sizeOf 60).run Tryz.prog w=.ok 2 w:=Tryz.sizeOf60 w
theorem sortP_any (g cap base:Nat) (ss:List Pl) (w:World) (h:w.ownsRow base 60 2 (.slice (some ⟨g,0,none⟩) ss.length cap) ss.length (flatP ss)) (hn:ss.length≤1000000) :
    Calls Tryz.prog 196 #[.slice (some ⟨g,0,none⟩) ss.length cap,.func (.func 187) #[] #[]] w fun e w'=>e=.returned (.tuple #[]) ∧
      w'.ownsRow base 60 2 (.slice (some ⟨g,0,none⟩) ss.length cap) ss.length (flatP (srtd ss))∧w.grownBy w' (some g):=by
  have hlt:=(h.lt g rfl)
  have hcell:=h.cells (g:=g) rfl
  obtain⟨_,⟨e1,_⟩ | ⟨g',cap',cur,ev,hbase,hb,h1,h2,h3,h4⟩⟩:=h
  · cases e1
  · injection ev with ev1 _ ev3
    injection ev1 with ev1
    injection ev1 with ev1
    subst ev1 ev3
    have hH:HoldsK encL 2 w g 0 ss.toArray:=by
      unfold HoldsK
      rw[flatK_flatP]
      intro j hj
      have hj':j < (flatP ss).length:=by simpa using hj
      refine⟨?_,by simp[World.frozen?,hb]⟩
      have:=hcell j ((flatP ss)[j]) (List.getElem?_eq_getElem hj')
      rw[Addr.add_lit] at this
      rw[this]
      simp[getElem!_def,List.getElem?_eq_getElem hj']
    have hS:=AnyQ.slices_SortFunc_total Tryz.sortF196 2 aggPlace sizePlace encL (fun _=>rfl) (fun x v hv=>by simp[encL] at hv;rcases hv with rfl | rfl <;> rfl) cmpP cmpP_swo 187 #[] g 0 cap ss.toArray w
      (enters_of Tryz.func187 (by kernel_rfl) rfl) (cmpLaysP g 0 _ w) hH hlt.2 (by simp;omega) (fun x y a b=>by
        rw[cmpP_lt] at a b
        exact Classical.byContradiction fun e=>(of_decide_eq_false b) (ltP.tri (of_decide_eq_false a) e))
    change Calls Tryz.prog 196 _ _ _ at hS
    simp only[List.size_toArray] at hS
    refine hS.mono ?_
    rintro e w' ⟨rfl,n,os,rfl⟩
    refine⟨rfl,?_,?_⟩
    · unfold sortWorldK putRowK
      rw[show (ss.mergeSort fun x y=>!ltOf cmpP y x)=srtd ss from rfl,flatK_flatP]
      have hl:(flatP (srtd ss)).length=ss.length * 2:=by rw[flatP_length,(srtd_perm ss).length_eq]
      have hl0:(flatP ss).length=ss.length * 2:=flatP_length ss
      have hcur:ss.length * 2≤cur.size:=by rw[h3];exact Nat.mul_le_mul_right 2 h1
      refine⟨hl,.inr ⟨g,cap,_,rfl,hbase,heap_putF _ hb,h1,h2,by simp[putCells,h3],?_⟩⟩
      have:=take_putF (cur:=cur) (flatP (srtd ss)).toArray (by simp only[List.size_toArray];omega)
      simp only[List.size_toArray] at this
      rw[← hl]
      exact this
    · unfold sortWorldK putRowK
      exact grown_putF _
end Go.Proofs.YtaonpmclkafjdaaGreat
namespace Go.Proofs.YtaonpmclkafjdaaGreat
open Go.RowKit Go.Shelf Go.Lib Go.Sort
set_option linter.unusedVariables false
set_option maxHeartbeats 1000000 in
theorem collectP_any {n:Nat} (hn:4≤n) (g:Nat) (lb:Array Value) (eg:∀ args w,(callFunc g args).run Tryz.prog w=.ok (.enter g args) w) (S:List Pl→Prop) (N:Nat) (hN:N≤1000000) (w:World)
    (hseq:SeqStopsK Fence.wide (n - 1 - 1) Tryz.prog g lb (fun p=>#[encP p]) KeepsWalks S (fun _=>True) N w) (hSN:∀ ss,S ss→ss.length≤N) :
    CallsIn Fence.wide n Tryz.prog 195 #[.func (.func g) #[] lb] w fun e w'=>∃ (v:Value) (ss:List Pl),e=.returned v∧S ss∧w'.ownsRow w.heap.size 60 2 v ss.length (flatP ss)∧(v=.slice none 0 0↔ss=[])∧Below w.heap.size w w':=by
  have hA:=appendP_any (n:=n - 1) (by omega) g lb eg S N hN w hseq hSN
  have hfA:Fence.wide.fn 235:=trivial
  have h1:1≤n:=by omega
  refine callsIn_of_wp Tryz.func195 rfl trivial ?_ rfl
  simp only[Tryz.ntmps195,List.size_toArray,List.length_cons,List.length_nil,Nat.reduceAdd,Nat.reduceSub,Array.replicate_succ,Array.replicate_zero,List.push_toArray,List.append_toArray,List.nil_append,List.cons_append]
  gi_wp2_with (gi_at_call 235;refine hA.mono ?_;rintro e w' ⟨v,ss,rfl,hS,hrow,hnil,hb⟩)
  go_ret
  exact⟨v,ss,rfl,hS,hrow,hnil,hb⟩
set_option maxRecDepth 100000 in
set_option maxHeartbeats 2000000 in
theorem sortedP_any {n:Nat} (hn:5≤n) (g:Nat) (lb:Array Value) (eg:∀ args w,(callFunc g args).run Tryz.prog w=.ok (.enter g args) w) (S:List Pl→Prop) (N:Nat) (hN:N≤1000000) (w:World)
    (hseq:SeqStopsK Fence.wide (n - 1 - 1 - 1) Tryz.prog g lb (fun p=>#[encP p]) KeepsWalks S (fun _=>True) N w) (hSN:∀ ss,S ss→ss.length≤N) :
    CallsIn Fence.wide n Tryz.prog 162 #[.func (.func g) #[] lb,.func (.func 187) #[] #[]] w fun e w'=>∃ (v:Value) (ss:List Pl),e=.returned v∧S ss∧w'.ownsRow w.heap.size 60 2 v ss.length (flatP (srtd ss))∧Below w.heap.size w w':=by
  have hC:=collectP_any (n:=n - 1) (by omega) g lb eg S N hN w hseq hSN
  have hfC:Fence.wide.fn 195:=trivial
  have hfS:Fence.wide.fn 196:=trivial
  have h1:1≤n:=by omega
  refine callsIn_of_wp Tryz.func162 rfl trivial ?_ rfl
  simp only[Tryz.ntmps162,List.size_toArray,List.length_cons,List.length_nil,Nat.reduceAdd,Nat.reduceSub,Array.replicate_succ,Array.replicate_zero,List.push_toArray,List.append_toArray,List.nil_append,List.cons_append]
  gi_wp2_with (gi_at_call 195;refine hC.mono ?_;rintro e W ⟨v,ss,rfl,hS,hrow,hnil,hb⟩)
  by_cases c:ss=[]
  · subst c
    obtain rfl:=hnil.2 rfl
    have cS:CallsIn Fence.wide (n - 1) Tryz.prog 196 #[.slice none 0 0,.func (.func 187) #[] #[]] W fun e w'=>e=.returned (.tuple #[])∧w'=W :=
      callsIn_wide.2 (AnyF.slices_SortFunc_none Tryz.sortF196 none 0 _ W)
    gi_wp2_with (gi_at_call 196;refine cS.mono ?_;rintro e w' ⟨rfl,rfl⟩)
    go_ret
    refine⟨.slice none 0 0,[],rfl,hS,?_,hb⟩
    rw[show srtd []=[] from by simp[srtd]]
    exact hrow
  · rcases hrow.2 with ⟨hv,_⟩ | ⟨gb,cap,cur,rfl,hbase,hgb,r1,r2,r3,r4⟩
    · exact absurd (hnil.1 hv) c
    · have cS:=callsIn_wide (n:=n - 1).2 (sortP_any gb cap _ ss W hrow (Nat.le_trans (hSN ss hS) hN))
      clear hgb r1 r2 r3 r4
      gi_wp2_with (gi_at_call 196;refine cS.mono ?_;rintro e w' ⟨rfl,hr2,hg2⟩)
      go_ret
      exact⟨_,ss,rfl,hS,hr2,hb.grown hg2 hb.size (fun j hj=>by cases hj;exact hbase)⟩
set_option maxHeartbeats 1000000 in
theorem keys_fn (mb:Option Nat)(n:Nat)(w:World):CallsIn Fence.wide n Tryz.prog 186 #[.map mb] w fun e w'=>e=.returned (.func (.func 212) #[] #[.pointer (some ⟨w.heap.size,0,none⟩)])∧w'=w.alloc (.cells #[.map mb] 236):=by
  refine callsIn_of_wp Tryz.func186 rfl trivial ?_ rfl
  simp only[Tryz.ntmps186,List.size_toArray,List.length_cons,List.length_nil,Nat.reduceAdd,Nat.reduceSub,Array.replicate_succ,Array.replicate_zero,List.push_toArray,List.append_toArray,List.nil_append,List.cons_append]
  gi_wp2
  go_ret
  exact⟨rfl,rfl⟩
set_option maxRecDepth 100000 in
set_option maxHeartbeats 2000000 in
theorem sorted_of (mb:Option Nat) (S:List Pl→Prop) (N:Nat) (hN:N≤1000000) (w:World) (hSN:∀ ss,S ss→ss.length≤N)
    (hseq:SeqStopsK Fence.wide 4 Tryz.prog 212 #[.pointer (some ⟨w.heap.size,0,none⟩)] (fun p=>#[encP p]) KeepsWalks S (fun _=>True) N (w.alloc (.cells #[.map mb] 236))) :
    Calls Tryz.prog 148 #[.map mb] w fun e w'=>∃ (v:Value) (ss:List Pl),e=.returned v∧S ss∧(∃ base,w.heap.size≤base∧w'.ownsRow base 60 2 v ss.length (flatP (srtd ss)))∧Below w.heap.size w w':=by
  refine (callsIn_wide (n:=8)).1 ?_
  have cK:=keys_fn mb 7 w
  have cS:=sortedP_any (n:=7) (by omega) 212 #[.pointer (some ⟨w.heap.size,0,none⟩)] (enters_of Tryz.func212 (by kernel_rfl) rfl) S N hN _ hseq hSN
  have hfK:Fence.wide.fn 186:=trivial
  have hfS:Fence.wide.fn 162:=trivial
  clear hseq
  refine callsIn_of_wp Tryz.func148 rfl trivial ?_ rfl
  simp only[Tryz.ntmps148,List.size_toArray,List.length_cons,List.length_nil,Nat.reduceAdd,Nat.reduceSub,Array.replicate_succ,Array.replicate_zero,List.push_toArray,List.append_toArray,List.nil_append,List.cons_append]
  gi_wp2_with (first
    | (gi_at_call 186;refine cK.mono ?_;rintro e w' ⟨rfl,rfl⟩)
    | (gi_at_call 162;refine cS.mono ?_;rintro e w' ⟨v,ss,rfl,hS,hrow,hb⟩))
  go_ret
  exact⟨v,ss,rfl,hS,⟨_,by simp,hrow⟩,((Below.refl _ w).alloc (Nat.le_refl _) _).trans (hb.mono (by simp))⟩
end Go.Proofs.YtaonpmclkafjdaaGreat
namespace Go.Proofs.YtaonpmclkafjdaaGreat
open Go.RowKit Go.Shelf Go.Lib Go.Sort
set_option linter.unusedVariables false
set_option maxHeartbeats 1000000 in
theorem of_via (v:Value) (mo mb:Option Nat) (f:Int) (w:World) (Q:Ending→World→Prop)
    (hA:Calls Tryz.prog 147 #[v] w fun e w'=>e=.returned (.map mo)∧w'=w)
    (hL:(Instr.lookup 218 (.map mo) (.int .i64 f) false).run Tryz.prog w=.ok (.map mb) w)
    (hS:Calls Tryz.prog 148 #[.map mb] w fun e w'=>∃ u,e=.returned u∧Q (.returned u) w') :
    Calls Tryz.prog 101 #[v,.int .i64 f] w Q:=by
  go_enter Tryz.func101,Tryz.ntmps101
  go_wp2_with fail
  refine hA.mono ?_
  rintro e w' ⟨rfl,hw⟩
  have hw':=hw.symm
  subst hw'
  clear hw
  go_wp2_with fail
  refine hS.mono ?_
  rintro e w' ⟨u,rfl,hQ⟩
  go_wp2_with fail
  exact hQ
theorem sorted_none (w:World):Calls Tryz.prog 148 #[.map none] w fun e w'=>∃ u,e=.returned u∧Pls w' w'.heap.size u []∧NewV w u∧Below w.heap.size w w':=by
  refine (sorted_of none (fun ss=>ss=[]) 0 (Nat.zero_le _) w (fun ss h=>by rw[h];exact Nat.le_refl _) (keysP_nil w.heap.size _ (by simp) ((Blk.new w 236 #[.map none]).cell 0))).mono ?_
  rintro e w' ⟨u,ss,rfl,rfl,⟨base,hb,hr⟩,hbel⟩
  rw[show srtd []=[] from by simp[srtd]] at hr
  exact⟨u,rfl,Pls.of_own hr rfl,fun a n c e _=>own_new hr hb a n c e,hbel⟩
theorem sorted_some (k:Nat)(l:List Pl)(n:Nat)(w:World)(h:MapK EP w k n (setL l))(hs:SrtP l)(hl:l.length≤200000):Calls Tryz.prog 148 #[.map (some k)] w fun e w'=>∃ u,e=.returned u∧Pls w' w'.heap.size u l∧NewV w u∧Below w.heap.size w w':=by
  obtain⟨D,d1,d2,d3,d4⟩:=h.tight (srt_nd hs) (fun x=>setL_ne.symm)
  have hb0:Below w.heap.size w (w.alloc (.cells #[.map (some k)] 236)):=belAl (Below.refl _ w) _
  have d1':(w.alloc (.cells #[.map (some k)] 236)).ownsMap Tryz.prog 60 selfR k l.length D:=by
    have hk:=d1.lt
    obtain⟨es,clock,hb,Ft,hs',hD⟩:=d1
    exact⟨es,clock,(hb0.block k hk).trans hb,Ft,hs',hD⟩
  refine (sorted_of (some k) (fun ss=>AllOf D ss∧ss.length≤Maps.size D) (Maps.size D) (by omega) w (fun ss h=>h.2) (keysP_any (by omega) w.heap.size k l.length D _ (by simp) ((Blk.new w 236 #[.map (some k)]).cell 0) d1')).mono ?_
  rintro e w' ⟨u,ss,rfl,⟨⟨h1,h2,h3⟩,_⟩,⟨base,hb,hr⟩,hbel⟩
  have hmem:∀ q,q∈ss↔q∈l:=by
    intro q
    by_cases hq:WPl q
    · rw[h3 q hq,hasK_look d1 EP.K,show lookK D (litP q)=setL l q from d3 q hq,← setL_ne (l:=l)]
      cases setL l q <;> simp
    · constructor
      · exact fun h=>absurd (h2 q h) hq
      · exact fun h=>absurd (d4 q hq) (setL_ne.2 h)
  have hsl:srtd ss=l:=srt_ext (srtd_srt h1) hs fun q=>by rw[(srtd_perm ss).mem_iff,hmem q]
  rw[hsl] at hr
  have hlen:l.length=ss.length:=by rw[← hsl,(srtd_perm ss).length_eq]
  exact⟨u,rfl,Pls.of_own hr hlen,fun a n c e _=>own_new hr hb a n c e,hbel⟩
set_option maxRecDepth 20000 in
theorem back_of (gB:Nat) (K:Nat→Prop) (b:BS) (w:World) (f:Int) (h:BackMem w gB K b) (wf:W64 f) :
    Calls Tryz.prog 101 #[.pointer (some ⟨gB,0,none⟩),.int .i64 f] w fun e w'=>∃ v,e=.returned v∧Pls w' w'.heap.size v (b f)∧NewV w v∧Below w.heap.size w w':=by
  obtain⟨mo,h1,h2⟩:=h.at_
  have hA:=all_any gB mo w (h1.cell 0)
  cases mo with
  | none =>
    have hL:=MapK.nil_look EI w Tryz.underlying218 (z:=.map none) (by rfl) false f wf
    rw[show b f=[] from h2 f]
    exact of_via _ none none f w _ hA hL ((sorted_none w).mono (by rintro e w' ⟨u,rfl,hu⟩;exact⟨u,rfl,u,rfl,hu⟩))
  | some m =>
    obtain⟨bk,hI⟩:=h2
    obtain⟨n,hM⟩:=hI.out
    have hL:=hM.run_get Tryz.underlying218 (z:=.map none) (by rfl) f wf
    by_cases c:b f=[]
    · rw[show outL b bk f=none from if_pos c] at hL
      rw[c]
      exact of_via _ (some m) none f w _ hA hL ((sorted_none w).mono (by rintro e w' ⟨u,rfl,hu⟩;exact⟨u,rfl,u,rfl,hu⟩))
    · rw[show outL b bk f=some (.map (some (bk f))) from if_neg c] at hL
      exact of_via _ (some m) (some (bk f)) f w _ hA hL ((sorted_some (bk f) (b f) _ w (hI.tightI h.srt c) (h.srt f) (h.len f)).mono (by rintro e w' ⟨u,rfl,hu⟩;exact⟨u,rfl,u,rfl,hu⟩))
end Go.Proofs.YtaonpmclkafjdaaGreat
namespace Go.Proofs.YtaonpmclkafjdaaGreat
open Go.RowKit Go.Shelf Go.Lib Go.Sort
set_option linter.unusedVariables false
set_option maxRecDepth 100000 in
set_option maxHeartbeats 2000000 in
theorem of_viaW (gS j:Nat) (x:Option Nat) (S:List Pl→Prop) (N:Nat) (hN:N≤1000000) (w:World) (hj:j < 32) (c1:w.cell? ⟨gS,j,none⟩=some (.map x)) (hSN:∀ ss,S ss→ss.length≤N)
    (hseq:SeqStopsK Fence.wide 4 Tryz.prog 197 #[.pointer (some ⟨w.heap.size,0,none⟩)] (fun p=>#[encP p]) KeepsWalks S (fun _=>True) N (w.alloc (.cells #[.map x] 135))) :
    Calls Tryz.prog 120 #[.pointer (some ⟨gS,0,none⟩),.int .i64 (j:Int)] w fun e w'=>∃ (v:Value) (ss:List Pl),e=.returned v∧S ss∧(∃ base,w.heap.size≤base∧w'.ownsRow base 60 2 v ss.length (flatP (srtd ss)))∧Below w.heap.size w w':=by
  refine (callsIn_wide (n:=8)).1 ?_
  have cH:=callsIn_wide (n:=7).2 (has_any gS (j:Int) w)
  rw[show decide (isSlot (j:Int))=true from decide_eq_true ⟨by omega,by omega⟩] at cH
  have cK:=keys_fnW x 7 w
  have cS:=sortedP_anyW (n:=7) (by omega) 197 #[.pointer (some ⟨w.heap.size,0,none⟩)] (enters_of Tryz.func197 (by kernel_rfl) rfl) S N hN _ hseq hSN
  have hfH:Fence.wide.fn 70:=trivial
  have hfK:Fence.wide.fn 163:=trivial
  have hfS:Fence.wide.fn 162:=trivial
  have hj2:(j:Int) < 32:=by omega
  clear hseq
  refine callsIn_of_wp Tryz.func120 rfl trivial ?_ rfl
  simp only[Tryz.ntmps120,List.size_toArray,List.length_cons,List.length_nil,Nat.reduceAdd,Nat.reduceSub,Array.replicate_succ,Array.replicate_zero,List.push_toArray,List.append_toArray,List.nil_append,List.cons_append]
  gi_wp2_with (first
    | (gi_at_call 70;refine cH.mono ?_;rintro e w' ⟨rfl,hw'⟩;subst hw')
    | (gi_at_call 163;refine cK.mono ?_;rintro e w' ⟨rfl,hw'⟩;subst hw')
    | (gi_at_call 162;refine cS.mono ?_;rintro e w' ⟨v,ss,rfl,hS,hrow,hb⟩))
  go_ret
  exact⟨v,ss,rfl,hS,⟨_,by simp,hrow⟩,((Below.refl _ _).alloc (Nat.le_refl _) _).trans (hb.mono (by simp))⟩
theorem swap_of (gS:Nat) (K:Nat→Prop) (s:SS) (w:World) (n:Nat) (hn:n < 32) (h:SwpMem w gS K s) :
    Calls Tryz.prog 120 #[.pointer (some ⟨gS,0,none⟩),.int .i64 (n:Int)] w fun e w'=>∃ v,e=.returned v∧Pls w' w'.heap.size v (s n)∧NewS w v∧Below w.heap.size w w':=by
  obtain⟨mo,h1,h2,h3⟩:=h.at_
  have c1:w.cell? ⟨gS,n,none⟩=some (.map (mo n)):=by rw[h1.cell n];simpa using mapsL_at mo hn
  have hO:=h2 n hn
  have hs:=h.ok n
  have hl:=h.len n
  cases hk:mo n with
  | none =>
    rw[hk] at hO c1
    rw[show s n=[] from hO]
    refine (of_viaW gS n none (fun ss=>ss=[]) 0 (Nat.zero_le _) w hn c1 (fun ss h=>by rw[h];exact Nat.le_refl _) (keysP_nilW w.heap.size _ (by simp) ((Blk.new w 135 #[.map none]).cell 0))).mono ?_
    rintro e w' ⟨u,ss,rfl,rfl,⟨base,hb,hr⟩,hbel⟩
    rw[show srtd []=[] from by simp[srtd]] at hr
    exact⟨u,rfl,Pls.of_own hr rfl,fun a n c e _=>own_new hr hb a n c e,hbel⟩
  | some k =>
    rw[hk] at hO c1
    obtain⟨D,d1,d2,d3,d4⟩:=(hO.tight hs).tight (srt_ndW hs) (fun x=>setL_neW.symm)
    have hb0:Below w.heap.size w (w.alloc (.cells #[.map (some k)] 135)):=belAl (Below.refl _ w) _
    have d1':(w.alloc (.cells #[.map (some k)] 135)).ownsMap Tryz.prog 60 selfR k (s n).length D:=by
      have hk:=d1.lt
      obtain⟨es,clock,hb,Ft,hs',hD⟩:=d1
      exact⟨es,clock,(hb0.block k hk).trans hb,Ft,hs',hD⟩
    refine (of_viaW gS n (some k) (fun ss=>AllOfW D ss∧ss.length≤Maps.size D) (Maps.size D) (by omega) w hn c1 (fun ss h=>h.2) (keysP_anyW (by omega) w.heap.size k (s n).length D _ (by simp) ((Blk.new w 135 #[.map (some k)]).cell 0) d1')).mono ?_
    rintro e w' ⟨u,ss,rfl,⟨⟨h1,h2,h3⟩,_⟩,⟨base,hb,hr⟩,hbel⟩
    have hmem:∀ q,q∈ss↔q∈s n:=by
      intro q
      by_cases hq:WPl q
      · rw[h3 q hq,hasK_look d1 EP.K,show lookK D (litP q)=setLW (s n) q from d3 q hq,← setL_neW (l:=s n)]
        cases setLW (s n) q <;> simp
      · constructor
        · exact fun h=>absurd (h2 q h) hq
        · exact fun h=>absurd (d4 q hq) (setL_neW.2 h)
    have hsl:srtd ss=s n:=srt_ext (srtd_srt h1) hs fun q=>by rw[(srtd_perm ss).mem_iff,hmem q]
    rw[hsl] at hr
    have hlen:(s n).length=ss.length:=by rw[← hsl,(srtd_perm ss).length_eq]
    exact⟨u,rfl,Pls.of_own hr hlen,fun a n c e _=>own_new hr hb a n c e,hbel⟩
end Go.Proofs.YtaonpmclkafjdaaGreat
