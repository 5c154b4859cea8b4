/-
  Frame, Of, Dirty of a cache over the landed code.
  Mark, Drop, Put of a cache over the landed code.
  Conditions: those that each line bears.
-/
import Derived.Test.YtaonpmclkafjdaaGreatQz30
import Derived.Test.YtaonpmclkafjdaaGreatQz13
import Derived.StillTailTactics
import Derived.Carry
import Derived.Deep.RegionWith
set_option linter.unusedSimpArgs false
set_option linter.unusedSectionVars false
set_option linter.unusedVariables false
namespace Go.Proofs.YtaonpmclkafjdaaGreat
open Go.RowKit
set_option linter.unusedVariables false
theorem fldC0 (po ko:Option Nat)(w:World):(Instr.field 168 (.agg #[.map po,.map ko]) 0).run Tryz.prog w=.ok (.map po) w:=by kernel_rfl
theorem fldC1 (po ko:Option Nat)(w:World):(Instr.field 168 (.agg #[.map po,.map ko]) 1).run Tryz.prog w=.ok (.map ko) w:=by kernel_rfl
theorem fldPg1 (f:Int)(d:Bool)(w:World):(Instr.field 171 (.agg #[.int .i64 f,.bool d]) 1).run Tryz.prog w=.ok (.bool d) w:=by kernel_rfl
set_option maxRecDepth 20000 in
set_option maxHeartbeats 1000000 in
theorem frame_via (v:Value) (po ko:Option Nat) (k:Pl) (f:Int) (d ok:Bool) (w:World) (h:KeptIs w v po ko)
    (hl:∀ W,Below w.heap.size w W→(Instr.lookup 165 (.map po) (.agg #[.int .i64 k.c,.int .i64 k.g]) true).run Tryz.prog W=.ok (.tuple #[.agg #[.int .i64 f,.bool d],.bool ok]) W) :
    Calls Tryz.prog 55 #[v,.agg #[.int .i64 k.c,.int .i64 k.g]] w fun e w'=>e=.returned (.tuple #[.int .i64 f,.bool ok])∧Below w.heap.size w w':=by
  have hk:∀ W,Below w.heap.size w W→Calls Tryz.prog 96 #[v] W fun e w'=>e=.returned (.agg #[.map po,.map ko])∧w'=W.alloc (.cells #[.map po,.map ko] 168):=fun W hb=>kept_any v po ko W (h.far hb)
  clear h
  have kA:=hk ((w.alloc (.cells #[.int .i64 k.c,.int .i64 k.g] 85)).drew) (belAl (Below.refl _ w) _).drew
  have kB:=hk (((w.alloc (.cells #[.int .i64 k.c,.int .i64 k.g] 85)).alloc (.cells #[.int .i64 0,.bool false] 171)).drew) (belAl (belAl (Below.refl _ w) _) _).drew
  clear hk
  have q0:=fldC0 po ko
  have l0:=hl (((w.alloc (.cells #[.int .i64 k.c,.int .i64 k.g] 85)).alloc (.cells #[.map po,.map ko] 168)).drew) (belAl (belAl (Below.refl _ w) _) _).drew
  have l1:=hl ((((w.alloc (.cells #[.int .i64 k.c,.int .i64 k.g] 85)).alloc (.cells #[.int .i64 0,.bool false] 171)).alloc (.cells #[.map po,.map ko] 168)).drew) (belAl (belAl (belAl (Below.refl _ w) _) _) _).drew
  have l2:=hl ((((w.alloc (.cells #[.int .i64 k.c,.int .i64 k.g] 85)).alloc (.cells #[.map po,.map ko] 168)).alloc (.cells #[.int .i64 0,.bool false] 171)).drew) (belAl (belAl (belAl (Below.refl _ w) _) _) _).drew
  clear hl
  go_enter Tryz.func55,Tryz.ntmps55
  go_wp2_with fail
  go_region_with (first
    | (go_at_call 96;refine kA.mono ?_;rintro e w' ⟨rfl,rfl⟩)
    | (go_at_call 96;refine kB.mono ?_;rintro e w' ⟨rfl,rfl⟩))
  all_goals
    go_wp2_with fail
    go_ret2
    refine⟨rfl,?_⟩
    repeat first
      | exact Below.refl _ _
      | refine Below.drew ?_
      | refine belAl ?_ _
set_option maxRecDepth 20000 in
set_option maxHeartbeats 1000000 in
theorem cacOf_via (v:Value) (po ko:Option Nat) (f:Int) (k:Pl) (ok:Bool) (w:World) (h:KeptIs w v po ko)
    (hl:∀ W,Below w.heap.size w W→(Instr.lookup 166 (.map ko) (.int .i64 f) true).run Tryz.prog W=.ok (.tuple #[.agg #[.int .i64 k.c,.int .i64 k.g],.bool ok]) W) :
    Calls Tryz.prog 41 #[v,.int .i64 f] w fun e w'=>e=.returned (.tuple #[.agg #[.int .i64 k.c,.int .i64 k.g],.bool ok])∧Below w.heap.size w w':=by
  have kA:=kept_any v po ko (w.alloc (.cells #[.int .i64 0,.int .i64 0] 85)) (h.far (belAl (Below.refl _ w) _))
  have l0:=hl ((w.alloc (.cells #[.int .i64 0,.int .i64 0] 85)).alloc (.cells #[.map po,.map ko] 168)) (belAl (belAl (Below.refl _ w) _) _)
  have q0:=fldC1 po ko
  clear h hl
  go_enter Tryz.func41,Tryz.ntmps41
  go_wp2_with fail
  refine kA.mono ?_
  rintro e w' ⟨rfl,rfl⟩
  go_wp2_with fail
  refine bodyPost_ret (results_row_tmp rfl _ _ w.heap.size 85 #[.int .i64 k.c,.int .i64 k.g] _ rfl (((Blk.new w _ _).al _).al _) Tryz.underlying85 rfl (by kernel_rfl)) rfl ?_
  exact⟨rfl,belAl (belAl (belAl (Below.refl _ w) _) _) _⟩
set_option maxRecDepth 20000 in
set_option maxHeartbeats 1000000 in
theorem dirty_via (v:Value) (po ko:Option Nat) (k:Pl) (f:Int) (d:Bool) (w:World) (h:KeptIs w v po ko)
    (hl:∀ W,Below w.heap.size w W→(Instr.lookup 165 (.map po) (.agg #[.int .i64 k.c,.int .i64 k.g]) false).run Tryz.prog W=.ok (.agg #[.int .i64 f,.bool d]) W) :
    Calls Tryz.prog 105 #[v,.agg #[.int .i64 k.c,.int .i64 k.g]] w fun e w'=>e=.returned (.bool d)∧Below w.heap.size w w':=by
  have kA:=kept_any v po ko (w.alloc (.cells #[.int .i64 k.c,.int .i64 k.g] 85)).drew (h.far (belAl (Below.refl _ w) _).drew)
  have l0:=hl ((w.alloc (.cells #[.int .i64 k.c,.int .i64 k.g] 85)).alloc (.cells #[.map po,.map ko] 168)).drew (belAl (belAl (Below.refl _ w) _) _).drew
  have q0:=fldC0 po ko
  have q1:=fldPg1 f d
  clear h hl
  go_enter Tryz.func105,Tryz.ntmps105
  go_wp2_with fail
  go_region_with (go_at_call 96;refine kA.mono ?_;rintro e w' ⟨rfl,rfl⟩)
  all_goals
    go_wp2_with fail
    go_ret
    refine⟨rfl,?_⟩
    repeat first
      | exact Below.refl _ _
      | refine Below.drew ?_
      | refine belAl ?_ _
theorem CacMem.kept {w:World}{gC:Nat}{K:Nat→Prop}{es:CS}(h:CacMem w gC K es):∃ po ko,KeptIs w (.pointer (some ⟨gC,0,none⟩)) po ko∧Blk w gC 168 #[.map po,.map ko]∧CacMaps w K es po ko:=by
  obtain⟨po,ko,h1,h2⟩:=h.at_
  exact⟨po,ko,.inr ⟨gC,rfl,h1⟩,h1,h2⟩
theorem zeroPg (w:World):(zeroValue 171).run Tryz.prog w=.ok (.agg #[.int .i64 0,.bool false]) w:=by kernel_rfl
theorem zeroKy (w:World):(zeroValue 85).run Tryz.prog w=.ok (.agg #[.int .i64 0,.int .i64 0]) w:=by kernel_rfl
theorem look_page {w:World} {K:Nat→Prop} {es:CS} {po ko:Option Nat} (hm:CacMaps w K es po ko) (hlt:∀ k,K k→k < w.heap.size) (k:Pl) (wk:WPlc k) (c:Bool) (W:World) (hb:Below w.heap.size w W) :
    (Instr.lookup 165 (.map po) (.agg #[.int .i64 k.c,.int .i64 k.g]) c).run Tryz.prog W=.ok (if c then .tuple #[(pagesL es k).getD (.agg #[.int .i64 0,.bool false]),.bool (pagesL es k).isSome] else (pagesL es k).getD (.agg #[.int .i64 0,.bool false])) W:=by
  cases po with
  | none =>
    cases ko with
    | some _=>exact hm.elim
    | none =>
      obtain rfl:es=[]:=hm
      exact MapK.nil_look EK W Tryz.underlying165 (zeroPg W) c k wk
  | some p =>
    cases ko with
    | none=>exact hm.elim
    | some q =>
      obtain⟨h1,_,_,⟨n,h4⟩,_⟩:=hm
      have h5:MapK EK W p n (pagesL es):=h4.far (hb.block p (hlt p h1))
      cases c with
      | true=>exact h5.run_look Tryz.underlying165 (zeroPg W) k wk
      | false=>exact h5.run_get Tryz.underlying165 (zeroPg W) k wk
theorem look_frame {w:World} {K:Nat→Prop} {es:CS} {po ko:Option Nat} (hm:CacMaps w K es po ko) (hlt:∀ k,K k→k < w.heap.size) (f:Int) (wf:W64c f) (W:World) (hb:Below w.heap.size w W) :
    (Instr.lookup 166 (.map ko) (.int .i64 f) true).run Tryz.prog W=.ok (.tuple #[(keysL es f).getD (.agg #[.int .i64 0,.int .i64 0]),.bool (keysL es f).isSome]) W:=by
  cases po with
  | none =>
    cases ko with
    | some _=>exact hm.elim
    | none =>
      obtain rfl:es=[]:=hm
      exact MapK.nil_look EI W Tryz.underlying166 (zeroKy W) true f wf
  | some p =>
    cases ko with
    | none=>exact hm.elim
    | some q =>
      obtain⟨_,h1,_,_,n,h4⟩:=hm
      have h5:MapK EI W q n (keysL es):=h4.far (hb.block q (hlt q h1))
      exact h5.run_look Tryz.underlying166 (zeroKy W) f wf
theorem pagesL_getD (es:CS)(k:Pl):∃ (f:Int) (d:Bool),(pagesL es k).getD (.agg #[.int .i64 0,.bool false])=.agg #[.int .i64 f,.bool d]∧(pagesL es k).isSome=hasC es k∧frV15 (frameC es k)=.tuple #[.int .i64 f,.bool (hasC es k)]∧(hasC es k=true→∃ e∈es,e.k=k∧e.f=f∧e.d=d):=by
  have hs:=pagesL_isSome es k
  unfold pagesL frameC frV15 at *
  cases hf:es.find? (fun e=>decide (e.k=k)) with
  | none =>
    rw[hf] at hs
    refine⟨0,false,rfl,hs,?_,fun h=>?_⟩
    · rw[← hs];rfl
    · rw[h] at hs;cases hs
  | some e =>
    rw[hf] at hs
    refine⟨e.f,e.d,rfl,hs,?_,fun h=>⟨e,List.mem_of_find?_eq_some hf,by simpa using List.find?_some hf,rfl,rfl⟩⟩
    rw[← hs];rfl
theorem keysL_getD (es:CS)(f:Int):∃ k:Pl,(keysL es f).getD (.agg #[.int .i64 0,.int .i64 0])=.agg #[.int .i64 k.c,.int .i64 k.g]∧(keysL es f).isSome=busyC es f∧pgV15 (pageC es f)=.tuple #[.agg #[.int .i64 k.c,.int .i64 k.g],.bool (busyC es f)]:=by
  have hs:=keysL_isSome es f
  unfold keysL pageC pgV15 at *
  cases hf:es.find? (fun e=>decide (e.f=f)) with
  | none =>
    rw[hf] at hs
    refine⟨⟨0,0⟩,rfl,hs,?_⟩
    rw[← hs];rfl
  | some e =>
    rw[hf] at hs
    refine⟨e.k,rfl,hs,?_⟩
    rw[← hs];rfl
theorem cac_uniq {es:CS}(h:CsOk es){e e':Ce}(he:e∈es)(he':e'∈es)(hk:e.k=e'.k):e=e':=by
  induction es with
  | nil=>exact absurd he List.not_mem_nil
  | cons x es ih =>
    obtain⟨h1,h2⟩:=List.pairwise_cons.1 h
    rcases List.mem_cons.1 he with e1 | m1
    · rcases List.mem_cons.1 he' with e2 | m2
      · rw[e1,e2]
      · rw[e1] at hk
        exact absurd hk (h1 _ m2).1
    · rcases List.mem_cons.1 he' with e2 | m2
      · rw[e2] at hk
        exact absurd hk.symm (h1 _ m1).1
      · exact ih h2 m1 m2
theorem dirty_getD {es:CS}(ho:CsOk es)(k:Pl):∃ f:Int,(pagesL es k).getD (.agg #[.int .i64 0,.bool false])=.agg #[.int .i64 f,.bool (dirtyC es k)]:=by
  obtain⟨f,d,h1,h2,_,h4⟩:=pagesL_getD es k
  refine⟨f,?_⟩
  rw[h1]
  have:d=dirtyC es k:=by
    cases hh:hasC es k with
    | true =>
      obtain⟨e,he,hk,hf,hd⟩:=h4 hh
      unfold dirtyC
      rw[← hd]
      cases hed:e.d with
      | true=>exact (List.any_eq_true.2 ⟨e,he,by simp[hk,hed]⟩).symm
      | false =>
        refine (List.any_eq_false.2 fun x hx hc=>?_).symm
        rw[Bool.and_eq_true,decide_eq_true_iff] at hc
        have:=cac_uniq ho hx he (hc.1.trans hk.symm)
        rw[this,hed] at hc
        cases hc.2
    | false =>
      rw[hh] at h2
      have:pagesL es k=none:=by simpa using h2
      rw[this] at h1
      injection h1 with h1
      have h1':=congrArg Array.toList h1
      simp only[List.cons.injEq,Value.bool.injEq,and_true] at h1'
      rw[← h1'.2]
      refine (List.any_eq_false.2 fun x hx hc=>?_).symm
      rw[Bool.and_eq_true,decide_eq_true_iff] at hc
      rw[hasC_iff.2 ⟨x,hx,hc.1⟩] at hh
      cases hh
  rw[this]
section
variable (gC:Nat)(K:Nat→Prop)(es:CS)(w:World)
theorem cache_frame (k:Pl) (h:CacMem w gC K es) (wk:WPlc k) :
    Calls Tryz.prog 55 #[.pointer (some ⟨gC,0,none⟩),.agg #[.int .i64 k.c,.int .i64 k.g]] w fun e w'=>e=.returned (frV15 (frameC es k))∧Below w.heap.size w w':=by
  obtain⟨po,ko,h1,_,h3⟩:=h.kept
  obtain⟨f,d,g1,g2,g3,_⟩:=pagesL_getD es k
  rw[g3]
  refine frame_via _ po ko k f d _ w h1 fun W hb=>?_
  rw[look_page h3 h.lt k wk true W hb,g1,g2]
  rfl
theorem cache_of (f:Int) (h:CacMem w gC K es) (wf:W64c f) :
    Calls Tryz.prog 41 #[.pointer (some ⟨gC,0,none⟩),.int .i64 f] w fun e w'=>e=.returned (pgV15 (pageC es f))∧Below w.heap.size w w':=by
  obtain⟨po,ko,h1,_,h3⟩:=h.kept
  obtain⟨k,g1,g2,g3⟩:=keysL_getD es f
  rw[g3]
  refine cacOf_via _ po ko f k _ w h1 fun W hb=>?_
  rw[look_frame h3 h.lt f wf W hb,g1,g2]
theorem cache_dirty (k:Pl) (h:CacMem w gC K es) (wk:WPlc k) :
    Calls Tryz.prog 105 #[.pointer (some ⟨gC,0,none⟩),.agg #[.int .i64 k.c,.int .i64 k.g]] w fun e w'=>e=.returned (.bool (dirtyC es k))∧Below w.heap.size w w':=by
  obtain⟨po,ko,h1,_,h3⟩:=h.kept
  obtain⟨f,g1⟩:=dirty_getD h.ok k
  refine dirty_via _ po ko k f _ w h1 fun W hb=>?_
  rw[look_page h3 h.lt k wk false W hb,g1]
  rfl
end
end Go.Proofs.YtaonpmclkafjdaaGreat
namespace Go.Proofs.YtaonpmclkafjdaaGreat
open Go.RowKit
set_option linter.unusedVariables false
theorem find_congr {α:Type}{l:List α}{p q:α→Bool}(h:∀ a∈l,p a=q a):l.find? p=l.find? q:=by
  induction l with
  | nil=>rfl
  | cons x l ih =>
    rw[List.find?_cons,List.find?_cons,h x List.mem_cons_self,ih fun a ha=>h a (List.mem_cons_of_mem _ ha)]
theorem cac_uniqF {es:CS}(h:CsOk es){e e':Ce}(he:e∈es)(he':e'∈es)(hk:e.f=e'.f):e=e':=by
  induction es with
  | nil=>exact absurd he List.not_mem_nil
  | cons x es ih =>
    obtain⟨h1,h2⟩:=List.pairwise_cons.1 h
    rcases List.mem_cons.1 he with e1 | m1
    · rcases List.mem_cons.1 he' with e2 | m2
      · rw[e1,e2]
      · rw[e1] at hk
        exact absurd hk (h1 _ m2).2
    · rcases List.mem_cons.1 he' with e2 | m2
      · rw[e2] at hk
        exact absurd hk.symm (h1 _ m1).2
      · exact ih h2 m1 m2
theorem find_k {es:CS}(h:CsOk es){e:Ce}(he:e∈es):es.find? (fun x=>decide (x.k=e.k))=some e:=by
  cases hf:es.find? (fun x=>decide (x.k=e.k)) with
  | none=>exact absurd (decide_eq_true (rfl:e.k=e.k)) (by have:=List.find?_eq_none.1 hf e he;exact this)
  | some x=>rw[cac_uniq h (List.mem_of_find?_eq_some hf) he (by simpa using List.find?_some hf)]
theorem pagesL_mark {es:CS}(h:CsOk es){e:Ce}(he:e∈es)(d:Bool)(x:Pl):pagesL (markC es e.k d) x=updK (pagesL es) e.k (some (.agg #[.int .i64 e.f,.bool d])) x:=by
  unfold updK
  have hc:((fun y:Ce=>decide (y.k=x)) ∘ fun y:Ce=>if y.k=e.k then (⟨y.k,y.f,d⟩:Ce) else y)=fun y=>decide (y.k=x):=by
    funext y
    show decide (Ce.k (if y.k=e.k then _ else y)=x)=_
    split <;> rfl
  have h1:pagesL (markC es e.k d) x=(es.find? (fun y=>decide (y.k=x))).map fun y=>if y.k=e.k then .agg #[.int .i64 y.f,.bool d] else .agg #[.int .i64 y.f,.bool y.d]:=by
    unfold pagesL markC
    rw[List.find?_map,hc,Option.map_map]
    refine congrArg (fun g=>Option.map g _) (funext fun y=>?_)
    show Value.agg #[.int .i64 (Ce.f (if y.k=e.k then _ else y)),.bool (Ce.d (if y.k=e.k then _ else y))]=_
    split <;> rfl
  rw[h1]
  by_cases c:x=e.k
  · subst c
    rw[if_pos rfl,find_k h he]
    simp
  · rw[if_neg c]
    unfold pagesL
    cases hf:es.find? (fun y=>decide (y.k=x)) with
    | none=>rfl
    | some y =>
      have hy:y.k=x:=by simpa using List.find?_some hf
      simp only[Option.map_some]
      rw[if_neg (by rw[hy];exact c)]
theorem keysL_mark (es:CS)(k:Pl)(d:Bool)(f:Int):keysL (markC es k d) f=keysL es f:=by
  have hc:((fun y:Ce=>decide (y.f=f)) ∘ fun y:Ce=>if y.k=k then (⟨y.k,y.f,d⟩:Ce) else y)=fun y=>decide (y.f=f):=by
    funext y
    show decide (Ce.f (if y.k=k then _ else y)=f)=_
    split <;> rfl
  unfold keysL markC
  rw[List.find?_map,hc,Option.map_map]
  refine congrArg (fun g=>Option.map g _) (funext fun y=>?_)
  show Value.agg #[.int .i64 (Ce.k (if y.k=k then _ else y)).c,.int .i64 (Ce.k (if y.k=k then _ else y)).g]=_
  split <;> rfl
theorem pagesL_drop (es:CS)(k x:Pl):pagesL (dropC es k) x=updK (pagesL es) k none x:=by
  unfold pagesL dropC updK
  rw[List.find?_filter]
  by_cases c:x=k
  · subst c
    rw[if_pos rfl,List.find?_eq_none.2 (fun y _=>by cases h:decide (y.k=x) <;> simp[h])]
    rfl
  · rw[if_neg c,find_congr fun y _=>?_]
    by_cases h:y.k=x
    · simp[h,c]
    · simp[h]
theorem keysL_drop {es:CS}(h:CsOk es){e:Ce}(he:e∈es)(f:Int):keysL (dropC es e.k) f=updK (keysL es) e.f none f:=by
  unfold keysL dropC updK
  rw[List.find?_filter]
  by_cases c:f=e.f
  · subst c
    rw[if_pos rfl,List.find?_eq_none.2 (fun y hy hc=>?_)]
    · rfl
    · have hc':(!decide (y.k=e.k) && decide (y.f=e.f))=true:=by simpa using hc
      rw[Bool.and_eq_true,decide_eq_true_iff] at hc'
      rw[cac_uniqF h hy he hc'.2] at hc'
      simp at hc'
  · rw[if_neg c,find_congr fun y hy=>?_]
    by_cases h1:y.f=f
    · by_cases h2:y.k=e.k
      · rw[cac_uniq h hy he h2] at h1
        exact absurd h1.symm c
      · simp[h1,h2]
    · simp[h1]
theorem pagesL_put {es:CS}{k:Pl}(h:hasC es k=false)(f:Int)(x:Pl):pagesL (es ++ [⟨k,f,false⟩]) x=updK (pagesL es) k (some (.agg #[.int .i64 f,.bool false])) x:=by
  have hs:=pagesL_isSome es k
  rw[h] at hs
  unfold pagesL updK at *
  rw[List.find?_append]
  by_cases c:x=k
  · subst c
    rw[if_pos rfl]
    have:es.find? (fun e=>decide (e.k=x))=none:=by simpa using hs
    rw[this]
    simp
  · rw[if_neg c]
    have:([⟨k,f,false⟩]:CS).find? (fun e=>decide (e.k=x))=none:=by simp[Ne.symm c]
    rw[this,Option.or_none]
theorem keysL_put {es:CS}{f:Int}(h:busyC es f=false)(k:Pl)(x:Int):keysL (es ++ [⟨k,f,false⟩]) x=updK (keysL es) f (some (.agg #[.int .i64 k.c,.int .i64 k.g])) x:=by
  have hs:=keysL_isSome es f
  rw[h] at hs
  unfold keysL updK at *
  rw[List.find?_append]
  by_cases c:x=f
  · subst c
    rw[if_pos rfl]
    have:es.find? (fun e=>decide (e.f=x))=none:=by simpa using hs
    rw[this]
    simp
  · rw[if_neg c]
    have:([⟨k,f,false⟩]:CS).find? (fun e=>decide (e.f=x))=none:=by simp[Ne.symm c]
    rw[this,Option.or_none]
theorem hasC_no {es:CS}{k:Pl}(h:hasC es k=false):∀ e∈es,e.k≠k:=fun e he hk=>by
  rw[hasC_iff.2 ⟨e,he,hk⟩] at h
  cases h
theorem markC_none {es:CS}{k:Pl}(h:hasC es k=false)(d:Bool):markC es k d=es:=by
  unfold markC
  have:∀ e∈es,(if e.k=k then (⟨e.k,e.f,d⟩:Ce) else e)=e:=fun e he=>if_neg (hasC_no h e he)
  rw[List.map_congr_left this,List.map_id']
theorem dropC_none {es:CS}{k:Pl}(h:hasC es k=false):dropC es k=es:=List.filter_eq_self.2 fun e he=>by simpa using hasC_no h e he
section
variable {w W W':World}{gC p q:Nat}{K:Nat→Prop}{es es':CS}
theorem CacPost.one {v:Value} (hlt:∀ k,K k→k < w.heap.size) (hC:K gC) (hB:Blk W gC 168 #[.map (some p),.map (some q)]) (hm:CacMaps W K es (some p) (some q)) (hb:Below w.heap.size w W) (ho:CsOk es') (hlen:es'.length≤200000)
    (h1:∃ n,MapK EK W' p n (pagesL es')) (h2:∀ f,keysL es' f=keysL es f) (hO:Only p W W'):CacPost w gC K v es' (.returned v) W':=by
  obtain⟨m1,m2,m3,m4,n,m5⟩:=hm
  have hk:∀ j,j < W.heap.size→j≠p→W'.heap[j]?=W.heap[j]?:=fun j hj hne=>hO.1.block j hj (fun e=>hne (by injection e with e))
  have hpC:p≠gC:=by obtain⟨_,m4⟩:=m4;exact hB.noMap m4.isMap
  have hs:=hb.size
  refine⟨K,rfl,⟨fun k h=>?_,ho,hlen,hC,some p,some q,?_,m1,m2,m3,h1,n,(m5.far (hk q m5.blk (Ne.symm m3))).congr fun f=>(h2 f).symm⟩,fun k h=>.inl h,?_⟩
  · have:=hlt k h
    rw[hO.2]
    omega
  · unfold Blk
    rw[hk gC hB.lt (Ne.symm hpC)]
    exact hB
  · exact (Turns.of_below hb (Nat.le_refl _)).trans (Turns.of_only hO m1)
end
set_option maxRecDepth 20000 in
set_option maxHeartbeats 1000000 in
theorem mark_yes (gC p q:Nat) (K:Nat→Prop) (es:CS) (w:World) (e0:Ce) (he:e0∈es) (d:Bool) (h:CacMem w gC K es) (hB:Blk w gC 168 #[.map (some p),.map (some q)]) (hm:CacMaps w K es (some p) (some q)) (wk:WPlc e0.k) :
    Calls Tryz.prog 42 #[.pointer (some ⟨gC,0,none⟩),.agg #[.int .i64 e0.k.c,.int .i64 e0.k.g],.bool d] w (CacPost w gC K (.bool true) (markC es e0.k d)):=by
  obtain⟨W0,hW0⟩:∃ W0,w.alloc (.cells #[.int .i64 e0.k.c,.int .i64 e0.k.g] 85)=W0:=⟨_,rfl⟩
  have hb0:Below w.heap.size w W0:=by rw[← hW0];exact belAl (Below.refl _ w) _
  have hx0:Blk W0 w.heap.size 85 #[.int .i64 e0.k.c,.int .i64 e0.k.g]:=by rw[← hW0];exact Blk.new _ _ _
  have hF:=cache_frame gC K es W0 e0.k (h.fresh hb0) wk
  have hfr:frV15 (frameC es e0.k)=.tuple #[.int .i64 e0.f,.bool true]:=by
    unfold frameC
    rw[find_k h.ok he]
    rfl
  rw[hfr] at hF
  have b1:=hx0.cell 0
  have b2:=hx0.cell 1
  have H:=Lib.hid (And.intro h (And.intro hB (And.intro hm wk)))
  have HB0:=Lib.hid hb0
  have HX0:=Lib.hid hx0
  have HE:=Lib.hid he
  clear h hB hm wk hb0 hx0 hfr he
  go_enter Tryz.func42,Tryz.ntmps42
  go_wp2_with fail
  refine hF.mono ?_
  rintro e W ⟨rfl,hb⟩
  obtain⟨h,hB,hm,wk⟩:=H.out
  have hl:=h.len
  have hbw:Below w.heap.size w W:=HB0.out.trans (hb.mono HB0.out.size)
  have hB':=hB.below hbw hB.lt
  have hm':CacMaps W K es (some p) (some q):=hm.far fun k hk=>hbw.block k (h.lt k hk)
  have hX:=HX0.out.below hb HX0.out.lt
  have c0:W.cell? ⟨gC,0,none⟩=some (.map (some p)):=hB'.cell 0
  have k1:W.cell? ⟨w.heap.size,0,none⟩=some (.int .i64 e0.k.c):=hX.cell 0
  have k2:W.cell? ⟨w.heap.size,1,none⟩=some (.int .i64 e0.k.g):=hX.cell 1
  obtain⟨m1,m2,m3,⟨n,m4⟩,m5⟩:=hm'
  obtain⟨W2,hW2⟩:∃ W2,W2=W.drew:=⟨_,rfl⟩
  have m4':MapK EK W2 p es.length (pagesL es):=by rw[hW2];exact (m4.tightC h.ok).far rfl
  obtain⟨W3,hst0,hm3,ho3⟩:=m4'.run_store Tryz.underlying165 (by omega) e0.k wk (.agg #[.int .i64 e0.f,.bool d])
  have hst:(Instr.mapUpdate 165 (.map (some p)) (.agg #[.int .i64 e0.k.c,.int .i64 e0.k.g]) (.agg #[.int .i64 e0.f,.bool d])).run Tryz.prog W2=.ok () W3:=hst0
  have HD:=Lib.hid (show CacPost w gC K (.bool true) (markC es e0.k d) (.returned (.bool true)) W3 from
    CacPost.one (W:=W2) (es:=es) h.lt h.kC (by rw[hW2];exact hB') (by rw[hW2];exact (show CacMaps W K es (some p) (some q) from ⟨m1,m2,m3,⟨n,m4⟩,m5⟩).far fun _ _=>rfl) (by rw[hW2];exact hbw.drew) (csOk_mark h.ok) (by unfold markC;rw[List.length_map];exact h.len) ⟨_,hm3.congr fun x=>(pagesL_mark h.ok HE.out d x).symm⟩ (fun f=>keysL_mark es e0.k d f) ho3)
  have HW2:=Lib.hid hW2
  clear hst0 hm3 ho3 m4' m4 m5 m1 m2 m3 hX hB' hbw hb h hB hm hl wk hW2
  go_wp2_with fail
  go_still_tail 8,(by kernel_rfl)
  change wpList _ _ _ _ _ W.drew
  rw[← HW2.out]
  go_wp2_with fail
  go_ret
  exact HD.out
theorem CacPost.same {w W:World}{gC:Nat}{K:Nat→Prop}{es:CS}{v:Value}(h:CacMem w gC K es)(hb:Below w.heap.size w W):CacPost w gC K v es (.returned v) W:=⟨K,rfl,h.fresh hb,fun k hk=>.inl hk,Turns.of_below hb (Nat.le_refl _)⟩
structure CacAt (w:World)(K:Nat→Prop)(gC p q:Nat)(es:CS)(X:World):Prop where
  blk:Blk X gC 168 #[.map (some p),.map (some q)]
  mp:MapK EK X p es.length (pagesL es)
  mq:MapK EI X q es.length (keysL es)
  ne:p≠q
  kp:K p∨w.heap.size≤p
  kq:K q∨w.heap.size≤q
  trn:Turns K w X
section
variable {w X Y:World}{gC p q n m:Nat}{K:Nat→Prop}{es es':CS}
theorem CacAt.drew (h:CacAt w K gC p q es X):CacAt w K gC p q es X.drew:=⟨h.blk,h.mp.far rfl,h.mq.far rfl,h.ne,h.kp,h.kq,h.trn.drew⟩
theorem CacAt.neP (h:CacAt w K gC p q es X):p≠gC:=h.blk.noMap h.mp.isMap
theorem CacAt.neQ (h:CacAt w K gC p q es X):q≠gC:=h.blk.noMap h.mq.isMap
theorem CacAt.mid (h:CacAt w K gC p q es X)(ho:Only p X Y):Blk Y gC 168 #[.map (some p),.map (some q)]∧MapK EI Y q es.length (keysL es)∧Turns K w Y:=by
  have hk:∀ j,j < X.heap.size→j≠p→Y.heap[j]?=X.heap[j]?:=fun j hj hne=>ho.1.block j hj (fun e=>hne (by injection e with e))
  refine⟨?_,h.mq.far (hk q h.mq.blk (Ne.symm h.ne)),?_⟩
  · unfold Blk
    rw[hk gC h.blk.lt (Ne.symm h.neP)]
    exact h.blk
  · rcases h.kp with c | c
    · exact h.trn.trans (Turns.of_only ho c)
    · exact h.trn.new_ ho c
theorem CacAt.done {Z:World} {v:Value} (h:CacAt w K gC p q es X) (hlt:∀ k,K k→k < w.heap.size) (hC:K gC) (h1:MapK EK Y p n (pagesL es')) (o1:Only p X Y) (h2:MapK EI Z q m (keysL es')) (o2:Only q Y Z) (ho:CsOk es') (hlen:es'.length≤200000) :
    CacPost w gC K v es' (.returned v) Z:=by
  obtain⟨b1,_,t1⟩:=h.mid o1
  have hk:∀ j,j < Y.heap.size→j≠q→Z.heap[j]?=Y.heap[j]?:=fun j hj hne=>o2.1.block j hj (fun e=>hne (by injection e with e))
  have hp:=h1.blk
  have hq:=h2.blk
  have hT:Turns K w Z:=by
    rcases h.kq with c | c
    · exact t1.trans (Turns.of_only o2 c)
    · exact t1.new_ o2 c
  refine⟨fun k=>K k∨k=p∨k=q,rfl,⟨fun k hk'=>?_,ho,hlen,.inl hC,some p,some q,?_,.inr (.inl rfl),.inr (.inr rfl),h.ne,⟨n,h1.far (hk p hp h.ne)⟩,m,h2⟩,fun k hk'=>?_,hT⟩
  · rcases hk' with hk' | rfl | rfl
    · exact Nat.lt_of_lt_of_le (hlt k hk') hT.size
    · rw[o2.2];exact hp
    · exact hq
  · unfold Blk
    rw[hk gC b1.lt (Ne.symm h.neQ)]
    exact b1
  · rcases hk' with hk' | rfl | rfl
    · exact .inl hk'
    · exact h.kp
    · exact h.kq
theorem CacAt.of {W:World}(h:CacMem w gC K es)(hB:Blk w gC 168 #[.map (some p),.map (some q)])(hm:CacMaps w K es (some p) (some q))(hb:Below w.heap.size w W):CacAt w K gC p q es W:=by
  obtain⟨m1,m2,m3,⟨n,m4⟩,n',m5⟩:=hm
  exact⟨hB.below hb hB.lt,(m4.tightC h.ok).far (hb.block p (h.lt p m1)),(m5.tightF h.ok).far (hb.block q (h.lt q m2)),m3,.inl m1,.inl m2,Turns.of_below hb (Nat.le_refl _)⟩
end
set_option maxRecDepth 20000 in
set_option maxHeartbeats 1000000 in
theorem drop_yes (gC p q:Nat) (K:Nat→Prop) (es:CS) (w:World) (e0:Ce) (he:e0∈es) (h:CacMem w gC K es) (hB:Blk w gC 168 #[.map (some p),.map (some q)]) (hm:CacMaps w K es (some p) (some q)) (wk:WPlc e0.k) :
    Calls Tryz.prog 57 #[.pointer (some ⟨gC,0,none⟩),.agg #[.int .i64 e0.k.c,.int .i64 e0.k.g]] w (CacPost w gC K (.bool true) (dropC es e0.k)):=by
  obtain⟨W0,hW0⟩:∃ W0,w.alloc (.cells #[.int .i64 e0.k.c,.int .i64 e0.k.g] 85)=W0:=⟨_,rfl⟩
  have hb0:Below w.heap.size w W0:=by rw[← hW0];exact belAl (Below.refl _ w) _
  have hx0:Blk W0 w.heap.size 85 #[.int .i64 e0.k.c,.int .i64 e0.k.g]:=by rw[← hW0];exact Blk.new _ _ _
  have hF:=cache_frame gC K es W0 e0.k (h.fresh hb0) wk
  have hfr:frV15 (frameC es e0.k)=.tuple #[.int .i64 e0.f,.bool true]:=by
    unfold frameC
    rw[find_k h.ok he]
    rfl
  rw[hfr] at hF
  have b1:=hx0.cell 0
  have b2:=hx0.cell 1
  have H:=Lib.hid (And.intro h (And.intro hB (And.intro hm wk)))
  have HB0:=Lib.hid hb0
  have HX0:=Lib.hid hx0
  have HE:=Lib.hid he
  clear h hB hm wk hb0 hx0 hfr he
  go_enter Tryz.func57,Tryz.ntmps57
  go_wp2_with fail
  refine hF.mono ?_
  rintro e W ⟨rfl,hb⟩
  obtain⟨h,hB,hm,wk⟩:=H.out
  have hbw:Below w.heap.size w W:=HB0.out.trans (hb.mono HB0.out.size)
  have hA:=CacAt.of h hB hm hbw
  have hX:=HX0.out.below hb HX0.out.lt
  have c0:W.cell? ⟨gC,0,none⟩=some (.map (some p)):=hA.blk.cell 0
  have k1:W.cell? ⟨w.heap.size,0,none⟩=some (.int .i64 e0.k.c):=hX.cell 0
  have k2:W.cell? ⟨w.heap.size,1,none⟩=some (.int .i64 e0.k.g):=hX.cell 1
  obtain⟨W2,hW2⟩:∃ W2,W2=W.drew:=⟨_,rfl⟩
  have hA2:CacAt w K gC p q es W2:=by rw[hW2];exact hA.drew
  obtain⟨W3,hst0,hm3,ho3⟩:=hA2.mp.run_drop Tryz.underlying165 e0.k wk 0
  have d2:∀ ty,(Builtin.delete_ #[165,85] ty #[.map (some p),.agg #[.int .i64 e0.k.c,.int .i64 e0.k.g]]).run Tryz.prog W2=.ok (.tuple #[]) W3:=fun ty=>hst0
  obtain⟨hB3,hq3,_⟩:=hA2.mid ho3
  have wf:W64c e0.f:=by
    have:=hA.mq.ok (x:=e0.f) (keysL_ne.2 (List.mem_map.2 ⟨e0,HE.out,rfl⟩))
    exact this
  obtain⟨W4,hst1,hm4,ho4⟩:=hq3.run_drop Tryz.underlying166 e0.f wf 0
  have d3:∀ ty,(Builtin.delete_ #[166,3] ty #[.map (some q),.int .i64 e0.f]).run Tryz.prog W3=.ok (.tuple #[]) W4:=fun ty=>hst1
  have c3:W3.cell? ⟨gC,1,none⟩=some (.map (some q)):=hB3.cell 1
  have HD:=Lib.hid (show CacPost w gC K (.bool true) (dropC es e0.k) (.returned (.bool true)) W4 from
    hA2.done h.lt h.kC (hm3.congr fun x=>(pagesL_drop es e0.k x).symm) ho3 (hm4.congr fun x=>(keysL_drop h.ok HE.out x).symm) ho4 (csOk_drop h.ok) (Nat.le_trans (List.length_filter_le _ _) h.len))
  have HW2:=Lib.hid hW2
  clear hst0 hst1 hm3 hm4 ho3 ho4 hA2 hA hX hbw hb h hB hm wk hW2 hB3 hq3 wf
  go_wp2_with fail
  go_still_tail 5,(by kernel_rfl)
  change wpList _ _ _ _ _ W.drew
  rw[← HW2.out]
  go_wp2_with fail
  go_ret
  exact HD.out
set_option maxRecDepth 20000 in
set_option maxHeartbeats 2000000 in
theorem put_has (gC:Nat) (K:Nat→Prop) (es:CS) (w:World) (k:Pl) (f:Int) (h:CacMem w gC K es) (wk:WPlc k) (wf:W64c f) (c1:hasC es k=true) :
    Calls Tryz.prog 131 #[.pointer (some ⟨gC,0,none⟩),.agg #[.int .i64 k.c,.int .i64 k.g],.int .i64 f] w (CacPost w gC K (.bool false) es):=by
  obtain⟨W0,hW0⟩:∃ W0,w.alloc (.cells #[.int .i64 k.c,.int .i64 k.g] 85)=W0:=⟨_,rfl⟩
  have hb0:Below w.heap.size w W0:=by rw[← hW0];exact belAl (Below.refl _ w) _
  have hx0:Blk W0 w.heap.size 85 #[.int .i64 k.c,.int .i64 k.g]:=by rw[← hW0];exact Blk.new _ _ _
  have hF:=cache_frame gC K es W0 k (h.fresh hb0) wk
  obtain⟨f0,d0,_,_,hfr,_⟩:=pagesL_getD es k
  obtain⟨k0,_,_,hof⟩:=keysL_getD es f
  rw[hfr] at hF
  have HO:=Lib.hid (show ∀ W,Below w.heap.size w W→Calls Tryz.prog 41 #[.pointer (some ⟨gC,0,none⟩),.int .i64 f] W fun e w'=>e=.returned (.tuple #[.agg #[.int .i64 k0.c,.int .i64 k0.g],.bool (busyC es f)])∧Below W.heap.size W w' from fun W hb=>by
    rw[← hof]
    exact cache_of gC K es W f (h.fresh hb) wf)
  have b1:=hx0.cell 0
  have b2:=hx0.cell 1
  have H:=Lib.hid (h)
  have HB0:=Lib.hid hb0
  have HX0:=Lib.hid hx0
  rw[c1] at hF
  clear h wk wf hb0 hx0 hfr hof c1
  go_enter Tryz.func131,Tryz.ntmps131
  go_wp2_with fail
  refine hF.mono ?_
  rintro e W1 ⟨rfl,hb1⟩
  have hbw1:Below w.heap.size w W1:=HB0.out.trans (hb1.mono HB0.out.size)
  have hX1:=HX0.out.below hb1 HX0.out.lt
  have hO:=HO.out W1 hbw1
  have HX1:=Lib.hid hX1
  have HB1:=Lib.hid hbw1
  clear hbw1 hX1 hb1
  go_wp2_with fail
  refine hO.mono ?_
  rintro e W2 ⟨rfl,hb2⟩
  obtain⟨W3,hW3⟩:∃ W3,W2.alloc (.cells #[.int .i64 k0.c,.int .i64 k0.g] 85)=W3:=⟨_,rfl⟩
  have hb3:Below W1.heap.size W1 W3:=by rw[← hW3];exact hb2.alloc hb2.size _
  have hbw3:Below w.heap.size w W3:=HB1.out.trans (hb3.mono HB1.out.size)
  have hX3:=HX1.out.below hb3 HX1.out.lt
  have HX3:=Lib.hid hX3
  have HB3:=Lib.hid hbw3
  clear hb2 hb3 hbw3 hX3
  go_wp2_with fail
  go_ret
  exact CacPost.same H.out HB3.out
set_option maxRecDepth 20000 in
set_option maxHeartbeats 2000000 in
theorem put_busy (gC:Nat) (K:Nat→Prop) (es:CS) (w:World) (k:Pl) (f:Int) (h:CacMem w gC K es) (wk:WPlc k) (wf:W64c f) (c1:hasC es k=false) (c2:busyC es f=true) :
    Calls Tryz.prog 131 #[.pointer (some ⟨gC,0,none⟩),.agg #[.int .i64 k.c,.int .i64 k.g],.int .i64 f] w (CacPost w gC K (.bool false) es):=by
  obtain⟨W0,hW0⟩:∃ W0,w.alloc (.cells #[.int .i64 k.c,.int .i64 k.g] 85)=W0:=⟨_,rfl⟩
  have hb0:Below w.heap.size w W0:=by rw[← hW0];exact belAl (Below.refl _ w) _
  have hx0:Blk W0 w.heap.size 85 #[.int .i64 k.c,.int .i64 k.g]:=by rw[← hW0];exact Blk.new _ _ _
  have hF:=cache_frame gC K es W0 k (h.fresh hb0) wk
  obtain⟨f0,d0,_,_,hfr,_⟩:=pagesL_getD es k
  obtain⟨k0,_,_,hof⟩:=keysL_getD es f
  rw[hfr] at hF
  have HO:=Lib.hid (show ∀ W,Below w.heap.size w W→Calls Tryz.prog 41 #[.pointer (some ⟨gC,0,none⟩),.int .i64 f] W fun e w'=>e=.returned (.tuple #[.agg #[.int .i64 k0.c,.int .i64 k0.g],.bool (busyC es f)])∧Below W.heap.size W w' from fun W hb=>by
    rw[← hof]
    exact cache_of gC K es W f (h.fresh hb) wf)
  have b1:=hx0.cell 0
  have b2:=hx0.cell 1
  have H:=Lib.hid (h)
  have HB0:=Lib.hid hb0
  have HX0:=Lib.hid hx0
  rw[c1] at hF
  rw[c2] at HO
  clear h wk wf hb0 hx0 hfr hof c1 c2
  go_enter Tryz.func131,Tryz.ntmps131
  go_wp2_with fail
  refine hF.mono ?_
  rintro e W1 ⟨rfl,hb1⟩
  have hbw1:Below w.heap.size w W1:=HB0.out.trans (hb1.mono HB0.out.size)
  have hX1:=HX0.out.below hb1 HX0.out.lt
  have hO:=HO.out W1 hbw1
  have HX1:=Lib.hid hX1
  have HB1:=Lib.hid hbw1
  clear hbw1 hX1 hb1
  go_wp2_with fail
  refine hO.mono ?_
  rintro e W2 ⟨rfl,hb2⟩
  obtain⟨W3,hW3⟩:∃ W3,W2.alloc (.cells #[.int .i64 k0.c,.int .i64 k0.g] 85)=W3:=⟨_,rfl⟩
  have hb3:Below W1.heap.size W1 W3:=by rw[← hW3];exact hb2.alloc hb2.size _
  have hbw3:Below w.heap.size w W3:=HB1.out.trans (hb3.mono HB1.out.size)
  have hX3:=HX1.out.below hb3 HX1.out.lt
  have HX3:=Lib.hid hX3
  have HB3:=Lib.hid hbw3
  clear hb2 hb3 hbw3 hX3
  go_wp2_with fail
  go_ret
  exact CacPost.same H.out HB3.out
theorem eqPg_some (m:Nat)(w:World):(binOp .eql 165 (.map (some m)) (.map none)).run Tryz.prog w=.ok (.bool false) w:=by kernel_rfl
theorem eqPg_none (w:World):(binOp .eql 165 (.map none) (.map none)).run Tryz.prog w=.ok (.bool true) w:=by kernel_rfl
set_option maxRecDepth 20000 in
set_option maxHeartbeats 2000000 in
theorem put_some (gC:Nat) (K:Nat→Prop) (es:CS) (w:World) (k:Pl) (f:Int) (p q:Nat) (h:CacMem w gC K es) (wk:WPlc k) (wf:W64c f) (c1:hasC es k=false) (c2:busyC es f=false) (hl:es.length≤100000) (hB:Blk w gC 168 #[.map (some p),.map (some q)]) (hm:CacMaps w K es (some p) (some q)) :
    Calls Tryz.prog 131 #[.pointer (some ⟨gC,0,none⟩),.agg #[.int .i64 k.c,.int .i64 k.g],.int .i64 f] w (CacPost w gC K (.bool true) (es ++ [⟨k,f,false⟩])):=by
  obtain⟨W0,hW0⟩:∃ W0,w.alloc (.cells #[.int .i64 k.c,.int .i64 k.g] 85)=W0:=⟨_,rfl⟩
  have hb0:Below w.heap.size w W0:=by rw[← hW0];exact belAl (Below.refl _ w) _
  have hx0:Blk W0 w.heap.size 85 #[.int .i64 k.c,.int .i64 k.g]:=by rw[← hW0];exact Blk.new _ _ _
  have hF:=cache_frame gC K es W0 k (h.fresh hb0) wk
  obtain⟨f0,d0,_,_,hfr,_⟩:=pagesL_getD es k
  obtain⟨k0,_,_,hof⟩:=keysL_getD es f
  rw[hfr] at hF
  have HO:=Lib.hid (show ∀ W,Below w.heap.size w W→Calls Tryz.prog 41 #[.pointer (some ⟨gC,0,none⟩),.int .i64 f] W fun e w'=>e=.returned (.tuple #[.agg #[.int .i64 k0.c,.int .i64 k0.g],.bool (busyC es f)])∧Below W.heap.size W w' from fun W hb=>by
    rw[← hof]
    exact cache_of gC K es W f (h.fresh hb) wf)
  have b1:=hx0.cell 0
  have b2:=hx0.cell 1
  have H:=Lib.hid (And.intro h (And.intro hB (And.intro hm (And.intro wk (And.intro wf (And.intro hl (And.intro c1 c2)))))))
  have HB0:=Lib.hid hb0
  have HX0:=Lib.hid hx0
  rw[c1] at hF
  rw[c2] at HO
  have q1:=eqPg_some p
  clear h wk wf hb0 hx0 hfr hof c1 c2 hB hm hl
  go_enter Tryz.func131,Tryz.ntmps131
  go_wp2_with fail
  refine hF.mono ?_
  rintro e W1 ⟨rfl,hb1⟩
  have hbw1:Below w.heap.size w W1:=HB0.out.trans (hb1.mono HB0.out.size)
  have hX1:=HX0.out.below hb1 HX0.out.lt
  have hO:=HO.out W1 hbw1
  have HX1:=Lib.hid hX1
  have HB1:=Lib.hid hbw1
  clear hbw1 hX1 hb1
  go_wp2_with fail
  refine hO.mono ?_
  rintro e W2 ⟨rfl,hb2⟩
  obtain⟨X,hX0⟩:∃ X,W2.alloc (.cells #[.int .i64 k0.c,.int .i64 k0.g] 85)=X:=⟨_,rfl⟩
  have hb3:Below W1.heap.size W1 X:=by rw[← hX0];exact hb2.alloc hb2.size _
  have hbw3:Below w.heap.size w X:=HB1.out.trans (hb3.mono HB1.out.size)
  have hX3:=HX1.out.below hb3 HX1.out.lt
  have HX3:=Lib.hid hX3
  have HB3:=Lib.hid hbw3
  clear hb2 hb3 hbw3 hX3
  obtain⟨h,hB,hm,wk,wf,hl,hc1,hc2⟩:=H.out
  have hok:CsOk (es ++ [⟨k,f,false⟩]):=by
    have:=csOk_put (k:=k) (f:=f) h.ok
    unfold putC freeC at this
    simpa [hc1,hc2] using this
  have hA:=CacAt.of h hB hm HB3.out
  have hXX:=HX3.out
  have c0:X.cell? ⟨gC,0,none⟩=some (.map (some p)):=hA.blk.cell 0
  have k1:X.cell? ⟨w.heap.size,0,none⟩=some (.int .i64 k.c):=hXX.cell 0
  have k2:X.cell? ⟨w.heap.size,1,none⟩=some (.int .i64 k.g):=hXX.cell 1
  obtain⟨Y0,hY0⟩:∃ Y0,Y0=X.drew:=⟨_,rfl⟩
  have hA2:CacAt w K gC p q es Y0:=by rw[hY0];exact hA.drew
  obtain⟨Y1,hst0,hm1,ho1⟩:=hA2.mp.run_store Tryz.underlying165 (by omega) k wk (.agg #[.int .i64 f,.bool false])
  have hst:(Instr.mapUpdate 165 (.map (some p)) (.agg #[.int .i64 k.c,.int .i64 k.g]) (.agg #[.int .i64 f,.bool false])).run Tryz.prog Y0=.ok () Y1:=hst0
  obtain⟨hB3,hq3,_⟩:=hA2.mid ho1
  have hXp:w.heap.size≠p:=fun e=>hXX.noMap hA.mp.isMap e.symm
  have hXY:Blk Y1 w.heap.size 85 #[.int .i64 k.c,.int .i64 k.g]:=ho1.blk (show Blk Y0 _ _ _ from by rw[hY0];exact hXX) hXp
  obtain⟨Y2,hY2⟩:∃ Y2,Y2=Y1.drew:=⟨_,rfl⟩
  have hq4:MapK EI Y2 q es.length (keysL es):=by rw[hY2];exact hq3.far rfl
  obtain⟨Y3,hst1,hm2,ho2⟩:=hq4.run_store Tryz.underlying166 (by omega) f wf (.agg #[.int .i64 k.c,.int .i64 k.g])
  have hst2:(Instr.mapUpdate 166 (.map (some q)) (.int .i64 f) (.agg #[.int .i64 k.c,.int .i64 k.g])).run Tryz.prog Y2=.ok () Y3:=hst1
  have ho2':Only q Y1 Y3:=by
    refine Only.trans (Only.drew (Only.refl q Y1)) ?_
    rw[← hY2]
    exact ho2
  have c1:Y1.cell? ⟨gC,1,none⟩=some (.map (some q)):=hB3.cell 1
  have j1:Y1.cell? ⟨w.heap.size,0,none⟩=some (.int .i64 k.c):=hXY.cell 0
  have j2:Y1.cell? ⟨w.heap.size,1,none⟩=some (.int .i64 k.g):=hXY.cell 1
  have HD:=Lib.hid (show CacPost w gC K (.bool true) (es ++ [⟨k,f,false⟩]) (.returned (.bool true)) Y3 from
    hA2.done h.lt h.kC (hm1.congr fun x=>(pagesL_put hc1 f x).symm) ho1 (hm2.congr fun x=>(keysL_put hc2 k x).symm) ho2' hok (by rw[List.length_append];simp;omega))
  have HY0:=Lib.hid hY0
  have HY2:=Lib.hid hY2
  clear hst0 hst1 hm1 hm2 ho1 ho2 ho2' hA2 hA hB3 hq3 hq4 hXp hXY hXX hY0 hY2 h hB hm wk wf hl hc1 hc2 hok
  go_wp2_with fail
  go_still_tail 7,(by kernel_rfl)
  change wpList _ _ _ _ _ X.drew
  rw[← HY0.out]
  go_wp2_with fail
  go_still_tail 6,(by kernel_rfl)
  change wpList _ _ _ _ _ Y1.drew
  rw[← HY2.out]
  go_wp2_with fail
  go_ret
  exact HD.out
set_option maxRecDepth 20000 in
set_option maxHeartbeats 2000000 in
theorem put_none (gC:Nat) (K:Nat→Prop) (es:CS) (w:World) (k:Pl) (f:Int) (h:CacMem w gC K es) (wk:WPlc k) (wf:W64c f) (c1:hasC es k=false) (c2:busyC es f=false) (hB:Blk w gC 168 #[.map none,.map none]) (hm:es=[]) :
    Calls Tryz.prog 131 #[.pointer (some ⟨gC,0,none⟩),.agg #[.int .i64 k.c,.int .i64 k.g],.int .i64 f] w (CacPost w gC K (.bool true) (es ++ [⟨k,f,false⟩])):=by
  obtain⟨W0,hW0⟩:∃ W0,w.alloc (.cells #[.int .i64 k.c,.int .i64 k.g] 85)=W0:=⟨_,rfl⟩
  have hb0:Below w.heap.size w W0:=by rw[← hW0];exact belAl (Below.refl _ w) _
  have hx0:Blk W0 w.heap.size 85 #[.int .i64 k.c,.int .i64 k.g]:=by rw[← hW0];exact Blk.new _ _ _
  have hF:=cache_frame gC K es W0 k (h.fresh hb0) wk
  obtain⟨f0,d0,_,_,hfr,_⟩:=pagesL_getD es k
  obtain⟨k0,_,_,hof⟩:=keysL_getD es f
  rw[hfr] at hF
  have HO:=Lib.hid (show ∀ W,Below w.heap.size w W→Calls Tryz.prog 41 #[.pointer (some ⟨gC,0,none⟩),.int .i64 f] W fun e w'=>e=.returned (.tuple #[.agg #[.int .i64 k0.c,.int .i64 k0.g],.bool (busyC es f)])∧Below W.heap.size W w' from fun W hb=>by
    rw[← hof]
    exact cache_of gC K es W f (h.fresh hb) wf)
  have b1:=hx0.cell 0
  have b2:=hx0.cell 1
  have H:=Lib.hid (And.intro h (And.intro hB (And.intro hm (And.intro wk (And.intro wf (And.intro c1 c2))))))
  have HB0:=Lib.hid hb0
  have HX0:=Lib.hid hx0
  rw[c1] at hF
  rw[c2] at HO
  have q1:=eqPg_none
  have q2:=@run_makeMap Tryz.prog
  clear h wk wf hb0 hx0 hfr hof c1 c2 hB hm
  go_enter Tryz.func131,Tryz.ntmps131
  go_wp2_with fail
  refine hF.mono ?_
  rintro e W1 ⟨rfl,hb1⟩
  have hbw1:Below w.heap.size w W1:=HB0.out.trans (hb1.mono HB0.out.size)
  have hX1:=HX0.out.below hb1 HX0.out.lt
  have hO:=HO.out W1 hbw1
  have HX1:=Lib.hid hX1
  have HB1:=Lib.hid hbw1
  clear hbw1 hX1 hb1
  go_wp2_with fail
  refine hO.mono ?_
  rintro e W2 ⟨rfl,hb2⟩
  obtain⟨W3,hW3⟩:∃ W3,W2.alloc (.cells #[.int .i64 k0.c,.int .i64 k0.g] 85)=W3:=⟨_,rfl⟩
  have hb3:Below W1.heap.size W1 W3:=by rw[← hW3];exact hb2.alloc hb2.size _
  have hbw3:Below w.heap.size w W3:=HB1.out.trans (hb3.mono HB1.out.size)
  have hX3:=HX1.out.below hb3 HX1.out.lt
  have HX3:=Lib.hid hX3
  have HB3:=Lib.hid hbw3
  clear hb2 hb3 hbw3 hX3
  obtain⟨h,hB,hm,wk,wf,hc1,hc2⟩:=H.out
  have hok:CsOk (es ++ [⟨k,f,false⟩]):=by
    have:=csOk_put (k:=k) (f:=f) h.ok
    unfold putC freeC at this
    simpa [hc1,hc2] using this
  have hl:es.length≤100000:=by rw[hm];exact Nat.zero_le _
  have hB3':=hB.below HB3.out hB.lt
  obtain⟨W4,hW4⟩:∃ W4,W3.alloc (.map #[] 0)=W4:=⟨_,rfl⟩
  obtain⟨V,hV⟩:∃ V,W4.alloc (.map #[] 0)=V:=⟨_,rfl⟩
  have hb4:Below W3.heap.size W3 V:=by rw[← hV,← hW4];exact belAl (belAl (Below.refl _ W3) _) _
  have hs4:W4.heap.size=W3.heap.size+1:=by rw[← hW4];simp
  have hsV:V.heap.size=W3.heap.size+1+1:=by rw[← hV,← hW4];simp
  have hBV:=hB3'.below hb4 hB3'.lt
  obtain⟨V1,hV1⟩:∃ V1,V.setCell ⟨gC,0,none⟩ (.map (some W3.heap.size))=V1:=⟨_,rfl⟩
  obtain⟨X,hX0⟩:∃ X,V1.setCell ⟨gC,1,none⟩ (.map (some W4.heap.size))=X:=⟨_,rfl⟩
  have hB1:Blk V1 gC 168 #[.map (some W3.heap.size),.map none]:=by rw[← hV1];exact hBV.set_ 0 _
  have hBX:Blk X gC 168 #[.map (some W3.heap.size),.map (some W4.heap.size)]:=by rw[← hX0];exact hB1.set_ 1 _
  have hoX:Only gC V X:=by rw[← hX0,← hV1];exact ((Only.refl gC V).setCell 0 _).setCell 1 _
  have hgC:gC < W3.heap.size:=hB3'.lt
  have hkX:∀ j,j < V.heap.size→j≠gC→X.heap[j]?=V.heap[j]?:=fun j hj hne=>hoX.1.block j hj (fun e=>hne (by injection e with e))
  have hXX:Blk X w.heap.size 85 #[.int .i64 k.c,.int .i64 k.g]:=by
    have h1:=HX3.out.below hb4 HX3.out.lt
    have hg:=hB.lt
    exact hoX.blk h1 (by omega)
  obtain⟨p,hp⟩:∃ p,p=W3.heap.size:=⟨_,rfl⟩
  obtain⟨q,hq⟩:∃ q,q=W4.heap.size:=⟨_,rfl⟩
  rw[← hp,← hq] at hBX
  have hA:CacAt w K gC p q es X:=by
    have hsw:=HB3.out.size
    refine⟨hBX,?_,?_,by omega,.inr (by omega),.inr (by omega),?_⟩
    · refine MapK.far (w:=V) ?_ (hkX p (by omega) (by omega))
      have h1:MapK EK W4 p es.length (pagesL es):=by
        rw[← hW4,hp,hm]
        exact (MapK.made W3 EK _).congr fun x=>rfl
      rw[← hV]
      exact h1.far ((belAl (Below.refl _ W4) _).block p (by omega))
    · refine MapK.far (w:=V) ?_ (hkX q (by omega) (by omega))
      rw[← hV,hq,hm]
      exact (MapK.made W4 EI _).congr fun x=>rfl
    · exact ((Turns.of_below HB3.out (Nat.le_refl _)).trans (Turns.of_below hb4 (by omega))).trans (Turns.of_only hoX h.kC)
  have e0:W3.cell? ⟨gC,0,none⟩=some (.map none):=hB3'.cell 0
  have v0:V.cell? ⟨gC,0,none⟩=some (.map none):=hBV.cell 0
  have u0:V.frozen? ⟨gC,0,none⟩=false:=hBV.frozen 0
  have v1:V1.cell? ⟨gC,1,none⟩=some (.map none):=hB1.cell 1
  have u1:V1.frozen? ⟨gC,1,none⟩=false:=hB1.frozen 1
  have c0:X.cell? ⟨gC,0,none⟩=some (.map (some p)):=hA.blk.cell 0
  have k1:X.cell? ⟨w.heap.size,0,none⟩=some (.int .i64 k.c):=hXX.cell 0
  have k2:X.cell? ⟨w.heap.size,1,none⟩=some (.int .i64 k.g):=hXX.cell 1
  obtain⟨Y0,hY0⟩:∃ Y0,Y0=X.drew:=⟨_,rfl⟩
  have hA2:CacAt w K gC p q es Y0:=by rw[hY0];exact hA.drew
  obtain⟨Y1,hst0,hm1,ho1⟩:=hA2.mp.run_store Tryz.underlying165 (by omega) k wk (.agg #[.int .i64 f,.bool false])
  have hst:(Instr.mapUpdate 165 (.map (some p)) (.agg #[.int .i64 k.c,.int .i64 k.g]) (.agg #[.int .i64 f,.bool false])).run Tryz.prog Y0=.ok () Y1:=hst0
  obtain⟨hB3,hq3,_⟩:=hA2.mid ho1
  have hXp:w.heap.size≠p:=fun e=>hXX.noMap hA.mp.isMap e.symm
  have hXY:Blk Y1 w.heap.size 85 #[.int .i64 k.c,.int .i64 k.g]:=ho1.blk (show Blk Y0 _ _ _ from by rw[hY0];exact hXX) hXp
  obtain⟨Y2,hY2⟩:∃ Y2,Y2=Y1.drew:=⟨_,rfl⟩
  have hq4:MapK EI Y2 q es.length (keysL es):=by rw[hY2];exact hq3.far rfl
  obtain⟨Y3,hst1,hm2,ho2⟩:=hq4.run_store Tryz.underlying166 (by omega) f wf (.agg #[.int .i64 k.c,.int .i64 k.g])
  have hst2:(Instr.mapUpdate 166 (.map (some q)) (.int .i64 f) (.agg #[.int .i64 k.c,.int .i64 k.g])).run Tryz.prog Y2=.ok () Y3:=hst1
  have ho2':Only q Y1 Y3:=by
    refine Only.trans (Only.drew (Only.refl q Y1)) ?_
    rw[← hY2]
    exact ho2
  have c1:Y1.cell? ⟨gC,1,none⟩=some (.map (some q)):=hB3.cell 1
  have j1:Y1.cell? ⟨w.heap.size,0,none⟩=some (.int .i64 k.c):=hXY.cell 0
  have j2:Y1.cell? ⟨w.heap.size,1,none⟩=some (.int .i64 k.g):=hXY.cell 1
  have HD:=Lib.hid (show CacPost w gC K (.bool true) (es ++ [⟨k,f,false⟩]) (.returned (.bool true)) Y3 from
    hA2.done h.lt h.kC (hm1.congr fun x=>(pagesL_put hc1 f x).symm) ho1 (hm2.congr fun x=>(keysL_put hc2 k x).symm) ho2' hok (by rw[List.length_append];simp;omega))
  have HY0:=Lib.hid hY0
  have HY2:=Lib.hid hY2
  rw[hp] at c0 hst
  rw[hq] at c1 hst2
  clear hst0 hst1 hm1 hm2 ho1 ho2 ho2' hA2 hA hB3 hq3 hq4 hXp hXY hXX hY0 hY2 h hB hm wk wf hl hc1 hc2 hok hB3' hBV hB1 hBX hoX hgC hkX hb4 hs4 hsV hp hq
  go_wp2_with fail
  go_still_tail 7,(by kernel_rfl)
  change wpList _ _ _ _ _ X.drew
  rw[← HY0.out]
  go_wp2_with fail
  go_still_tail 6,(by kernel_rfl)
  change wpList _ _ _ _ _ Y1.drew
  rw[← HY2.out]
  go_wp2_with fail
  go_ret
  exact HD.out
end Go.Proofs.YtaonpmclkafjdaaGreat
