/-
  Keys of a cache over the landed code.
  The contracts of a cache's calls over the landed code.
  Conditions: those that each line bears.
-/
import Derived.Test.YtaonpmclkafjdaaGreatQz33
import Derived.Test.YtaonpmclkafjdaaGreatQz28
import Derived.Test.YtaonpmclkafjdaaGreatQz31
import Derived.Test.YtaonpmclkafjdaaGreatQz00
set_option linter.unusedSimpArgs false
set_option linter.unusedSectionVars false
set_option linter.unusedVariables false
namespace Go.Proofs.YtaonpmclkafjdaaGreat
open Go.RowKit Go.Shelf Go.Lib Go.Sort
set_option linter.unusedVariables false
section
variable (gC:Nat)(K:Nat→Prop)(es:CS)(w:World)
end
end Go.Proofs.YtaonpmclkafjdaaGreat
namespace Go.Proofs.YtaonpmclkafjdaaGreat
open Go.RowKit
set_option linter.unusedVariables false
section
variable (gC:Nat)(K:Nat→Prop)(es:CS)(w:World)
set_option maxRecDepth 20000 in
set_option maxHeartbeats 1000000 in
theorem mark_no (k:Pl) (d:Bool) (h:CacMem w gC K es) (wk:WPlc k) (hh:hasC es k=false) :
    Calls Tryz.prog 42 #[.pointer (some ⟨gC,0,none⟩),.agg #[.int .i64 k.c,.int .i64 k.g],.bool d] w (CacPost w gC K (.bool false) es):=by
  obtain⟨W0,hW0⟩:∃ W0,w.alloc (.cells #[.int .i64 k.c,.int .i64 k.g] 85)=W0:=⟨_,rfl⟩
  have hb0:Below w.heap.size w W0:=by rw[← hW0];exact belAl (Below.refl _ w) _
  have hx0:Blk W0 w.heap.size 85 #[.int .i64 k.c,.int .i64 k.g]:=by rw[← hW0];exact Blk.new _ _ _
  have hF:=cache_frame gC K es W0 k (h.fresh hb0) wk
  obtain⟨f0,d0,_,_,hfr,_⟩:=pagesL_getD es k
  rw[hfr,hh] at hF
  have b1:=hx0.cell 0
  have b2:=hx0.cell 1
  have H:=Lib.hid h
  have HB0:=Lib.hid hb0
  clear h wk hh hb0 hx0 hfr
  go_enter Tryz.func42,Tryz.ntmps42
  go_wp2_with fail
  refine hF.mono ?_
  rintro e W ⟨rfl,hb⟩
  have HB:=Lib.hid (HB0.out.trans (hb.mono HB0.out.size))
  clear hb
  go_wp2_with fail
  go_ret
  exact CacPost.same H.out HB.out
set_option maxRecDepth 20000 in
set_option maxHeartbeats 1000000 in
theorem cacdrop_no (k:Pl) (h:CacMem w gC K es) (wk:WPlc k) (hh:hasC es k=false) :
    Calls Tryz.prog 57 #[.pointer (some ⟨gC,0,none⟩),.agg #[.int .i64 k.c,.int .i64 k.g]] w (CacPost w gC K (.bool false) es):=by
  obtain⟨W0,hW0⟩:∃ W0,w.alloc (.cells #[.int .i64 k.c,.int .i64 k.g] 85)=W0:=⟨_,rfl⟩
  have hb0:Below w.heap.size w W0:=by rw[← hW0];exact belAl (Below.refl _ w) _
  have hx0:Blk W0 w.heap.size 85 #[.int .i64 k.c,.int .i64 k.g]:=by rw[← hW0];exact Blk.new _ _ _
  have hF:=cache_frame gC K es W0 k (h.fresh hb0) wk
  obtain⟨f0,d0,_,_,hfr,_⟩:=pagesL_getD es k
  rw[hfr,hh] at hF
  have b1:=hx0.cell 0
  have b2:=hx0.cell 1
  have H:=Lib.hid h
  have HB0:=Lib.hid hb0
  clear h wk hh hb0 hx0 hfr
  go_enter Tryz.func57,Tryz.ntmps57
  go_wp2_with fail
  refine hF.mono ?_
  rintro e W ⟨rfl,hb⟩
  have HB:=Lib.hid (HB0.out.trans (hb.mono HB0.out.size))
  clear hb
  go_wp2_with fail
  go_ret
  exact CacPost.same H.out HB.out
theorem CacMaps.same_ {po ko:Option Nat}(hm:CacMaps w K es po ko):(po=none∧ko=none∧es=[])∨∃ p q,po=some p∧ko=some q:=by
  cases po <;> cases ko
  · exact .inl ⟨rfl,rfl,hm⟩
  · exact hm.elim
  · exact hm.elim
  · exact .inr ⟨_,_,rfl,rfl⟩
theorem cache_put (k:Pl) (f:Int) (h:CacMem w gC K es) (wk:WPlc k) (wf:W64c f) (hl:es.length≤100000) :
    Calls Tryz.prog 131 #[.pointer (some ⟨gC,0,none⟩),.agg #[.int .i64 k.c,.int .i64 k.g],.int .i64 f] w (CacPost w gC K (.bool (freeC es k f)) (putC es k f)):=by
  unfold putC freeC
  cases c1:hasC es k with
  | true=>exact put_has gC K es w k f h wk wf c1
  | false =>
    cases c2:busyC es f with
    | true=>exact put_busy gC K es w k f h wk wf c1 c2
    | false =>
      obtain⟨po,ko,h1,h2⟩:=h.at_
      rcases CacMaps.same_ K es w h2 with ⟨rfl,rfl,he⟩ | ⟨p,q,rfl,rfl⟩
      · exact put_none gC K es w k f h wk wf c1 c2 h1 he
      · exact put_some gC K es w k f p q h wk wf c1 c2 hl h1 h2
theorem cac_some {po ko:Option Nat}{k:Pl}(hm:CacMaps w K es po ko)(hh:hasC es k=true):∃ p q,po=some p∧ko=some q:=by
  rcases CacMaps.same_ K es w hm with ⟨_,_,rfl⟩ | h
  · cases hh
  · exact h
theorem cache_mark (k:Pl) (d:Bool) (h:CacMem w gC K es) (wk:WPlc k) :
    Calls Tryz.prog 42 #[.pointer (some ⟨gC,0,none⟩),.agg #[.int .i64 k.c,.int .i64 k.g],.bool d] w (CacPost w gC K (.bool (hasC es k)) (markC es k d)):=by
  cases hh:hasC es k with
  | true =>
    obtain⟨e0,he,rfl⟩:=hasC_iff.1 hh
    obtain⟨po,ko,h1,h2⟩:=h.at_
    obtain⟨p,q,rfl,rfl⟩:=cac_some K es w h2 hh
    exact mark_yes gC p q K es w e0 he d h h1 h2 wk
  | false =>
    rw[markC_none hh]
    exact mark_no gC K es w k d h wk hh
theorem cache_drop (k:Pl) (h:CacMem w gC K es) (wk:WPlc k) :
    Calls Tryz.prog 57 #[.pointer (some ⟨gC,0,none⟩),.agg #[.int .i64 k.c,.int .i64 k.g]] w (CacPost w gC K (.bool (hasC es k)) (dropC es k)):=by
  cases hh:hasC es k with
  | true =>
    obtain⟨e0,he,rfl⟩:=hasC_iff.1 hh
    obtain⟨po,ko,h1,h2⟩:=h.at_
    obtain⟨p,q,rfl,rfl⟩:=cac_some K es w h2 hh
    exact drop_yes gC p q K es w e0 he h h1 h2 wk
  | false =>
    rw[dropC_none hh]
    exact cacdrop_no gC K es w k h wk hh
end
end Go.Proofs.YtaonpmclkafjdaaGreat
