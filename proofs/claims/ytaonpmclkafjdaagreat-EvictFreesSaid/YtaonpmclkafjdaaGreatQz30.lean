/-
  A cache in memory: a map of pages, and one of the same pages by their frames; New; what kept answers.
  Conditions: those that each line bears.
-/
import Derived.Test.YtaonpmclkafjdaaGreatQz21
import Derived.Test.YtaonpmclkafjdaaGreatQz00
import Derived.Lib.Hide
import Derived.Laws.Rows
set_option linter.unusedSimpArgs false
set_option linter.unusedSectionVars false
set_option linter.unusedVariables false
namespace Go.Proofs.YtaonpmclkafjdaaGreat
open Go.RowKit
set_option linter.unusedVariables false
def pagesL (es:CS)(k:Pl):Option Value:=(es.find? (fun e=>decide (e.k=k))).map fun e=>.agg #[.int .i64 e.f,.bool e.d]
def keysL (es:CS)(f:Int):Option Value:=(es.find? (fun e=>decide (e.f=f))).map fun e=>.agg #[.int .i64 e.k.c,.int .i64 e.k.g]
def CacMaps (w:World)(K:Nat→Prop)(es:CS):Option Nat→Option Nat→Prop
  | none,none=>es=[]
  | some p,some k=>K p∧K k∧p≠k∧(∃ n,MapK EK w p n (pagesL es))∧∃ n,MapK EI w k n (keysL es)
  | _,_=>False
structure CacMem (w:World)(gC:Nat)(K:Nat→Prop)(es:CS):Prop where
  lt:∀ k,K k→k < w.heap.size
  ok:CsOk es
  len:es.length≤200000
  kC:K gC
  at_:∃ po ko,Blk w gC 168 #[.map po,.map ko]∧CacMaps w K es po ko
section
variable {w w':World}{gC:Nat}{K:Nat→Prop}{es:CS}{po ko:Option Nat}
theorem CacMaps.far (h:CacMaps w K es po ko)(hk:∀ k,K k→w'.heap[k]?=w.heap[k]?):CacMaps w' K es po ko:=by
  cases po <;> cases ko
  · exact h
  · exact h
  · exact h
  · obtain⟨h1,h2,h3,⟨n,h4⟩,m,h5⟩:=h
    exact⟨h1,h2,h3,⟨n,h4.far (hk _ h1)⟩,m,h5.far (hk _ h2)⟩
theorem CacMem.far (h:CacMem w gC K es)(hk:∀ k,K k→w'.heap[k]?=w.heap[k]?):CacMem w' gC K es:=by
  obtain⟨po,ko,h1,h2⟩:=h.at_
  refine⟨fun k hk'=>?_,h.ok,h.len,h.kC,po,ko,?_,h2.far hk⟩
  · have e:=hk k hk'
    rw[Array.getElem?_eq_getElem (h.lt k hk')] at e
    exact (Array.getElem?_eq_some_iff.1 e).1
  · unfold Blk at *
    rw[hk gC h.kC]
    exact h1
theorem CacMem.fresh (h:CacMem w gC K es)(hb:Below w.heap.size w w'):CacMem w' gC K es:=h.far fun k hk=>hb.block k (h.lt k hk)
theorem pagesL_isSome (es:CS)(k:Pl):(pagesL es k).isSome=hasC es k:=by
  unfold pagesL hasC
  rw[Option.isSome_map]
  exact Bool.eq_iff_iff.2 (by rw[List.find?_isSome,List.any_eq_true])
theorem keysL_isSome (es:CS)(f:Int):(keysL es f).isSome=busyC es f:=by
  unfold keysL busyC
  rw[Option.isSome_map]
  exact Bool.eq_iff_iff.2 (by rw[List.find?_isSome,List.any_eq_true])
theorem pagesL_ne {es:CS}{k:Pl}:pagesL es k≠none↔k∈es.map (·.k):=by
  rw[← Option.isSome_iff_ne_none,pagesL_isSome,hasC_iff,List.mem_map]
theorem keysL_ne {es:CS}{f:Int}:keysL es f≠none↔f∈es.map (·.f):=by
  rw[← Option.isSome_iff_ne_none,keysL_isSome,busyC_iff,List.mem_map]
theorem frames_nodup {es:CS}(h:CsOk es):(es.map (·.f)).Nodup:=List.pairwise_map.2 (h.imp fun hab=>hab.2)
theorem MapK.tightC {p n:Nat}(h:MapK EK w p n (pagesL es))(ho:CsOk es):MapK EK w p es.length (pagesL es):=by
  obtain⟨D,d1,_,d2,d3⟩:=h.tight (keys_nodup ho) (fun x=>pagesL_ne.symm)
  rw[List.length_map] at d1
  exact⟨D,d1,d2,d3⟩
theorem MapK.tightF {p n:Nat}(h:MapK EI w p n (keysL es))(ho:CsOk es):MapK EI w p es.length (keysL es):=by
  obtain⟨D,d1,_,d2,d3⟩:=h.tight (frames_nodup ho) (fun x=>keysL_ne.symm)
  rw[List.length_map] at d1
  exact⟨D,d1,d2,d3⟩
end
def CacPost (w:World)(gC:Nat)(K:Nat→Prop)(v:Value)(es':CS)(e:Ending)(w':World):Prop :=
  ∃ K':Nat→Prop,e=.returned v∧CacMem w' gC K' es'∧(∀ k,K' k→K k∨w.heap.size≤k)∧Turns K w w'
theorem cache_new (w:World):Calls Tryz.prog 86 #[] w fun e w'=>∃ gC K,e=.returned (.pointer (some ⟨gC,0,none⟩))∧CacMem w' gC K []∧(∀ k,K k→w.heap.size≤k)∧Below w.heap.size w w':=by
  go_enter Tryz.func86,Tryz.ntmps86
  go_wp2
  go_ret
  refine⟨w.heap.size,fun k=>k=w.heap.size,rfl,⟨fun k e=>?_,List.Pairwise.nil,Nat.zero_le _,rfl,none,none,Blk.new _ _ _,rfl⟩,fun k e=>by rw[e];exact Nat.le_refl _,belAl (Below.refl _ w) _⟩
  rw[e]
  simp
def KeptIs (w:World)(v:Value)(po ko:Option Nat):Prop :=
  (v=.pointer none∧po=none∧ko=none)∨∃ g,v=.pointer (some ⟨g,0,none⟩)∧Blk w g 168 #[.map po,.map ko]
theorem KeptIs.far {w w':World}{v:Value}{po ko:Option Nat}(h:KeptIs w v po ko)(hb:Below w.heap.size w w'):KeptIs w' v po ko:=by
  rcases h with ⟨h1,h2,h3⟩ | ⟨g,h1,h2⟩
  · exact .inl ⟨h1,h2,h3⟩
  · exact .inr ⟨g,h1,h2.below hb h2.lt⟩
theorem kept_any (v:Value)(po ko:Option Nat)(w:World)(h:KeptIs w v po ko):Calls Tryz.prog 96 #[v] w fun e w'=>e=.returned (.agg #[.map po,.map ko])∧w'=w.alloc (.cells #[.map po,.map ko] 168):=by
  rcases h with ⟨rfl,rfl,rfl⟩ | ⟨g,rfl,h⟩
  · go_enter Tryz.func96,Tryz.ntmps96
    go_wp2
    refine bodyPost_ret (results_cell_row rfl _ _ w.heap.size 168 #[.map none,.map none] (0,0) _ rfl (Blk.new _ _ _) Tryz.underlying168 rfl (by kernel_rfl)) rfl ?_
    exact⟨rfl,rfl⟩
  · obtain⟨W,hW⟩:∃ W,w.alloc (.cells #[.map none,.map none] 168)=W:=⟨_,rfl⟩
    have hb:Below w.heap.size w W:=by rw[← hW];exact belAl (Below.refl _ w) _
    have h':=h.below hb h.lt
    have hn:Blk W w.heap.size 168 #[.map none,.map none]:=by rw[← hW];exact Blk.new _ _ _
    have c0:=h'.cell 0
    have c1:=h'.cell 1
    have d0:=hn.cell 0
    have d1:=hn.cell 1
    have f0:=hn.frozen 0
    have f1:=hn.frozen 1
    have hs:W.heap.size=w.heap.size+1:=by rw[← hW];simp
    have HN:=Lib.hid hn
    have HZ:=Lib.hid hs
    have HB:=Lib.hid hb
    have HS:=Lib.hid hW
    clear h h' hn hb hs
    go_enter Tryz.func96,Tryz.ntmps96
    go_wp2_with fail
    refine bodyPost_ret (results_cell_row rfl _ _ w.heap.size 168 #[.map po,.map ko] (0,0) _ rfl ((HN.out.set_ 0 _).set_ 1 _) Tryz.underlying168 rfl (by kernel_rfl)) rfl ?_
    refine⟨rfl,?_⟩
    rw[← hW]
    simp[World.setCell_alloc_new]
    done
end Go.Proofs.YtaonpmclkafjdaaGreat
