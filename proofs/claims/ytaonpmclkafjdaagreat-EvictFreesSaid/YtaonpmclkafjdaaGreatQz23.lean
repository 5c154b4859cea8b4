/-
  Pairs of numbers as elements: how two are held against each other, what a sort makes of a list of them, a round's own box. Nothing of the program is named here.
  Conditions: those that each line bears.
-/
import Derived.Test.YtaonpmclkafjdaaGreatQz00
import Derived.Shelf.SlSortCmp.InsertionK
import Derived.RangeFuncBox
import Derived.RangeFuncKeeps
set_option linter.unusedSimpArgs false
set_option linter.unusedSectionVars false
set_option linter.unusedVariables false
namespace Go.Proofs.YtaonpmclkafjdaaGreat
open Go.RowKit Go.Shelf Go.Lib Go.Maps Go.Sort
set_option linter.unusedVariables false
def encP (p:Pl):Value:=.agg #[.int .i64 p.c,.int .i64 p.g]
def RndAt (t:TypeId)(a:Value→Value→Act)(B:Nat)(x:Pl)(a':Act)(W:World):Prop:=∃ k,B≤k∧a'=a (.pointer (some ⟨k,0,none⟩)) (encP x)∧Blk W k t #[.int .i64 x.c,.int .i64 x.g]
theorem RndAt.own (t:TypeId)(a:Value→Value→Act)(B:Nat)(x:Pl)(a':Act):OwnFrom B (fun (_:Unit) W=>RndAt t a B x a' W):=by
  rintro s X Y row ⟨k,h1,h2,h3⟩ hg hrow
  refine⟨k,h1,h2,?_⟩
  unfold Blk at *
  rw[hg.block k (Array.getElem?_eq_some_iff.1 h3).1 (fun e=>?_)]
  · exact h3
  · obtain⟨o,ho,hc⟩:=(hrow k e.symm).2
    rw[h3] at ho
    cases ho
    cases hc
theorem flatP_snoc (l:List Pl)(x:Pl):flatP (l ++ [x])=flatP l ++ [.int .i64 x.c,.int .i64 x.g]:=flatP_append l [x]
def orI (x y:Int):Int:=if x=0 then y else x
def cmpP (p q:Pl):Int:=orI (Lib.compareInt p.c q.c) (Lib.compareInt p.g q.g)
theorem cmpP_lt (p q:Pl):ltOf cmpP p q=decide (ltP p q):=by
  unfold ltOf cmpP orI ltP Lib.compareInt
  by_cases h1:p.c < q.c
  · simp[h1]
  · by_cases h2:q.c < p.c
    · simp[h1,h2];omega
    · have e:p.c=q.c:=by omega
      by_cases h3:p.g < q.g
      · simp[h1,h2,h3,e]
      · by_cases h4:q.g < p.g <;> simp[h1,h2,h3,h4,e]
theorem cmpP_swo:SWO (ltOf cmpP) where
  irrefl x:=by rw[cmpP_lt];exact decide_eq_false (ltP.irr x)
  trans x y z h1 h2:=by
    rw[cmpP_lt] at *
    exact decide_eq_true ((of_decide_eq_true h1).trans (of_decide_eq_true h2))
  ntrans x y z h1 h2:=by
    rw[cmpP_lt] at *
    have a:=of_decide_eq_false h1
    have b:=of_decide_eq_false h2
    refine decide_eq_false fun c=>?_
    by_cases e:x=y
    · subst e;exact b c
    · exact b ((ltP.tri a e).trans c)
instance : Inhabited Pl:=⟨pl0⟩
def encL (p:Pl):List Value:=[.int .i64 p.c,.int .i64 p.g]
section
variable {w:World}{g n base cap:Nat}{e:TypeId}{cur:Array Value}{fr:Nat × Nat}{os:Array Obj}
theorem heap_putF (F:Array Value) (hb:w.heap[g]?=some (.cells cur e fr)) :
    (grow (putRow id (Go.Sort.ahead w n) g 0 F) os).heap[g]?=some (.cells (putCells id 0 F cur) e fr):=by
  have hg:g < w.heap.size:=(Array.getElem?_eq_some_iff.1 hb).1
  rw[heap_grow_old _ _ (by simpa using hg)]
  simp[putRow,mapBlock,Go.Sort.ahead,Array.getElem?_modify,hb,onCells]
theorem grown_putF (F:Array Value):w.grownBy (grow (putRow id (Go.Sort.ahead w n) g 0 F) os) (some g):=by
  refine⟨rfl,rfl,rfl,by simp,fun k hk hne=>?_⟩
  rw[heap_grow_old _ _ (by simpa using hk)]
  have:g≠k:=fun e=>hne (by rw[e])
  simp[putRow,mapBlock,Go.Sort.ahead,Array.getElem?_modify,this]
theorem take_putF (F:Array Value)(h:F.size≤cur.size):(putCells id 0 F cur).toList.take F.size=F.toList:=by
  apply List.ext_getElem?
  intro j
  by_cases hj:j < F.size
  · rw[List.getElem?_take_of_lt hj,Array.getElem?_toList]
    simp[putCells,hj,show j < cur.size by omega]
  · rw[List.getElem?_take_eq_none (by omega),List.getElem?_eq_none (by simp;omega)]
end
theorem flatK_flatP (l:List Pl):flatK encL 2 l.toArray=(flatP l).toArray:=by
  refine Go.Sort.ext_get! (by simp[flatP_length]) fun t ht=>?_
  have ht':t < l.length * 2:=by simpa using ht
  rw[get_flatK _ _ _ _ (by simpa using ht')]
  obtain⟨j,hj⟩:∃ j,j=t / 2:=⟨_,rfl⟩
  have hjl:j < l.length:=by omega
  obtain⟨h1,h2⟩:=flatP_at hjl
  have e1:l.toArray[j]! = l.getD j pl0:=by
    simp[getElem!_def,List.getD_eq_getElem?_getD,List.getElem?_eq_getElem hjl]
  rw[← hj,e1]
  by_cases c:t % 2=0
  · obtain rfl:t=j * 2:=by omega
    rw[c]
    have:(flatP l).toArray[j * 2]! = .int .i64 (l.getD j pl0).c:=by
      rw[getElem!_def,List.getElem?_toArray,h1]
    rw[this]
    rfl
  · obtain rfl:t=j * 2+1:=by omega
    rw[show (j * 2+1) % 2=1 by omega]
    have:(flatP l).toArray[j * 2+1]! = .int .i64 (l.getD j pl0).g:=by
      rw[getElem!_def,List.getElem?_toArray,h2]
    rw[this]
    rfl
def srtd (l:List Pl):List Pl:=l.mergeSort fun x y=>!ltOf cmpP y x
theorem srtd_perm (l:List Pl):(srtd l).Perm l:=List.mergeSort_perm l _
theorem srtd_srt {l:List Pl}(hn:l.Nodup):SrtP (srtd l):=by
  have hd:(srtd l).Nodup:=(srtd_perm l).nodup_iff.2 hn
  have hp:(srtd l).Pairwise (fun a b=>(!ltOf cmpP b a)=true):=by
    refine List.pairwise_mergeSort (fun a b c h1 h2=>?_) (fun a b=>?_) l
    · rw[cmpP_lt] at *
      have h1':¬ ltP b a:=by simpa using h1
      have h2':¬ ltP c b:=by simpa using h2
      have:¬ ltP c a:=fun h=>by
        by_cases e:c=b
        · subst e;exact h1' h
        · exact h1' ((ltP.tri h2' e).trans h)
      simpa using this
    · rw[cmpP_lt,cmpP_lt]
      by_cases h:ltP b a
      · have:=ltP.asym h
        simp[this]
      · simp[h]
  refine (hp.and hd).imp fun {a b} h=>?_
  rw[cmpP_lt] at h
  have h1:¬ ltP b a:=by simpa using h.1
  exact ltP.tri h1 (fun e=>h.2 e.symm)
end Go.Proofs.YtaonpmclkafjdaaGreat
